import unittest
from fractions import Fraction
from itertools import combinations, product

from helper import (
    Case, HALF, NO_FRACTIONS, Numbers, all_asks, no_books, no_counts, no_looks, no_rules, number, pair, rules, size,
    wanted_bounds,
)

from bestheads.errors import NoBook, NoCount, NoLooks, NoRule, NoSlack
from bestheads.looks import sure_few
from bestheads.near import near_few

NONE = (0, 1)
ALL = (1, 1)
NO_SLACKS = NO_FRACTIONS + [NONE, HALF, (-1, 1), (-2, 1), (999999999998, 999999999999), (-3, 2)]


def near_lists(bounds, count, slack):
    """All rising lists of so many things that are nearly sure, by the words of the document."""
    lows = [number(low) * number(slack) for low, high in bounds]
    highs = [number(high) for low, high in bounds]
    found = []
    for few in combinations(range(len(bounds)), count):
        others = [thing for thing in range(len(bounds)) if thing not in few]
        if all(lows[thing] >= highs[other] for thing in few for other in others):
            found.append(list(few))
    return found


def slacks_at_edges(bounds):
    """Slacks that just suffice for a low and a high, and such as just don't."""
    found = [Fraction(1), Fraction(2), Fraction(10 ** 12)]
    for low, high in product([number(low) for low, high in bounds], [number(high) for low, high in bounds]):
        if low > 0:
            found += [high / low, high / low - Fraction(1, 10 ** 30)]
    return [pair(slack) for slack in sorted(set(found)) if slack >= 1]


class NearFew(Case):
    def check(self, book, rule, count, looks, slack):
        given = (book, rule, count, looks, slack)
        told = self.ask(near_few, *given)
        found = near_lists(wanted_bounds(book, rule, looks), count, slack)
        if not found:
            self.assertIsNone(told, given)
        else:
            self.assertIn(told, found, given)
        # Asked again, the same is told.
        self.told(told and list(told), near_few, *given)
        return told

    def test_written_out(self):
        book = [[ALL, (3, 4), HALF]]
        self.told(None, near_few, book, ("least",), 1, ([0], []), (5, 1))
        self.told([0], near_few, book, ("least",), 1, ([1], []), ALL)
        # Thing 1 is asked: it is worth 3/4, and the others can be worth 1.
        self.told(None, near_few, book, ("least",), 1, ([0], [(0, 1)]), ALL)
        self.told(None, near_few, book, ("least",), 1, ([0], [(0, 1)]), (133, 100))
        self.told([1], near_few, book, ("least",), 1, ([0], [(0, 1)]), (4, 3))
        self.told([1], near_few, book, ("least",), 1, ([0], [(0, 1)]), (10 ** 12 - 1, 1))

    def test_a_slack_that_just_suffices_and_one_that_just_does_not(self):
        # Things 0 and 1 are worth 3/5 and 2/5, thing 2 can be worth 2.
        book, rule = [[(2, 5), (1, 5), NONE], [(1, 5), (1, 5), (3, 5)]], ("shares", [ALL, ALL])
        looks = ([0, 0], [(0, 0), (0, 1), (1, 0), (1, 1)])
        self.told([0, 1], near_few, book, rule, 2, looks, (5, 1))
        self.told(None, near_few, book, rule, 2, looks, (4999999999999, 10 ** 12))
        self.told([1], near_few, [[HALF, (1, 4)]], ("least",), 1, ([0], [(0, 1)]), (4, 1))
        self.told(None, near_few, [[HALF, (1, 4)]], ("least",), 1, ([0], [(0, 1)]), (399999999999, 10 ** 11))

    def test_the_greatest_lows_alone_are_not_enough(self):
        # Thing 0 has the greatest low, but thing 1 can be worth far more: it has to be taken.
        book, looks = [[HALF, (2, 5), NONE], [HALF, ALL, NONE]], ([3, 0], [(1, 0), (1, 2)])
        self.told([1], near_few, book, ("greatest",), 1, looks, (5, 4))
        self.told(None, near_few, book, ("greatest",), 1, looks, (6, 5))
        self.told(None, near_few, book, ("greatest",), 1, looks, ALL)
        self.told([0, 1], near_few, book, ("greatest",), 2, looks, ALL)

    def test_none_wanted_and_all_wanted(self):
        for lists, things in product(range(1, 5), (1, 2, 8, 12)):
            for looks in (([0] * lists, []), ([things] * lists, []), ([1] * lists, all_asks(lists, things))):
                for slack in (ALL, (3, 2), (10 ** 12 - 1, 1)):
                    for rule in rules(lists):
                        self.told([], near_few, size(lists, things), rule, 0, looks, slack)
                        self.told(list(range(things)), near_few, size(lists, things), rule, things, looks, slack)

    def test_a_low_of_nought_stays_nought(self):
        for slack in (ALL, (10 ** 12 - 1, 1)):
            self.told(None, near_few, [[HALF, HALF]], ("least",), 1, ([0], []), slack)
            self.told(None, near_few, [[NONE, NONE]], ("least",), 1, ([0], []), slack)
            self.assertIn(self.check([[NONE, NONE]], ("least",), 1, ([1], []), slack), ([0], [1]))

    def test_a_slack_of_one_asks_for_sure_things(self):
        numbers = Numbers(61)
        for turn in range(200):
            lists, things = 1 + numbers.below(4), 1 + numbers.below(8)
            book, rule, looks = numbers.book(lists, things, 1), numbers.rule(lists, 1), numbers.looks(lists, things)
            count = numbers.below(things + 1)
            told = self.check(book, rule, count, looks, ALL)
            self.assertEqual(told is None, sure_few(book, rule, count, looks) is None)

    def test_slacks_at_their_edges(self):
        numbers = Numbers(62)
        told = []
        for turn in range(40):
            lists, things = 1 + numbers.below(4), 2 + numbers.below(4)
            book = numbers.grid(lists, things, 5)
            rule, looks = numbers.rule(lists, 1), numbers.looks(lists, things)
            for slack in slacks_at_edges(wanted_bounds(book, rule, looks)):
                for count in range(1, things):
                    told.append(self.check(book, rule, count, looks, slack))
        self.assertGreater(told.count(None), 200)
        self.assertGreater(len(told) - told.count(None), 200)

    def test_all_sizes_rules_and_counts(self):
        numbers = Numbers(63)
        for lists, things, figures in product(range(1, 5), (1, 2, 5, 8), (1, 12)):
            for turn in range(2):
                book = numbers.book(lists, things, figures)
                looks = numbers.looks(lists, things)
                for rule in rules(lists)[::2] + [numbers.rule(lists, 12)]:
                    slack = pair(1 + abs(numbers.fraction(figures)) / (1 + numbers.below(9)))
                    for count in sorted({1, things // 2, things - 1}):
                        self.check(book, rule, count, looks, slack)

    def test_more_things_than_eight(self):
        numbers = Numbers(64)
        for turn in range(8):
            book, rule, looks = numbers.book(2, 12, 2), numbers.rule(2, 1), numbers.looks(2, 12)
            for count in (1, 6, 11):
                self.check(book, rule, count, looks, (1 + numbers.below(30), 1))

    def test_the_largest_is_told_soon(self):
        numbers = Numbers(65)
        for things in (8, 12):
            book = numbers.book(4, things, 12)
            for rule in rules(4) + [numbers.rule(4, 12)]:
                for depth in (0, 1, 4, things):
                    for slack in (ALL, (10 ** 12 - 1, 10 ** 12 - 2), (3, 2), (10 ** 12 - 1, 1)):
                        self.soon(near_few, book, rule, 4, ([depth] * 4, [(0, 0), (3, 7)]), slack)

    def test_refusals(self):
        for thing in no_books():
            self.refused(NoBook, near_few, thing, ("least",), 0, ([0], []), ALL)
        for lists in range(1, 5):
            for thing in no_rules(lists):
                self.refused(NoRule, near_few, size(lists, 2), thing, 0, ([0] * lists, []), ALL)
        for things in (1, 2, 8):
            for thing in no_counts(things):
                self.refused(NoCount, near_few, size(2, things), ("least",), thing, ([0, 0], []), ALL)
        for lists, things in ((1, 1), (2, 3), (4, 8)):
            for looks in no_looks(lists, things):
                for count in (0, things):
                    self.refused(NoLooks, near_few, size(lists, things), ("least",), count, looks, ALL)
        for slack in NO_SLACKS:
            for count in (0, 1, 2):
                self.refused(NoSlack, near_few, size(2, 2), ("least",), count, ([0, 2], []), slack)

    def test_the_first_named_refusal_is_told(self):
        for slack in (ALL, HALF, True, None, (2, 2)):
            for looks in (([0, 0], []), None, ([0], []), ([0, True], [])):
                for count in (0, True, None, -1, 3):
                    for rule in (("least",), None):
                        self.refused(NoBook, near_few, [[]], rule, count, looks, slack)
                    self.refused(NoRule, near_few, size(2, 2), ("middle", 3), count, looks, slack)
                for count in (True, None, -1, 3):
                    self.refused(NoCount, near_few, size(2, 2), ("least",), count, looks, slack)
            for looks in (None, ([0], []), ([0, True], [])):
                self.refused(NoLooks, near_few, size(2, 2), ("least",), 1, looks, slack)


if __name__ == "__main__":
    unittest.main()
