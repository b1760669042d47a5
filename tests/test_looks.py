import unittest
from fractions import Fraction
from itertools import combinations, product

from helper import (
    Case, HALF, Numbers, agrees, all_asks, count_looks, is_best_few, no_books, no_counts, no_looks, no_rules, number,
    pair, rules, size, sure_lists, wanted_bounds, wanted_order, wanted_seen, wanted_sure, wanted_worths,
)

from bestheads.errors import NoBook, NoCount, NoLooks, NoRule
from bestheads.looks import count_of, seen_worths, sure_few, worth_bounds

BOOK = [[(1, 3), (1, 2), (1, 1), (1, 2)], [(1, 2), (1, 4), (0, 1), (1, 4)]]
NONE = (0, 1)
ALL = (1, 1)
SIZES = list(product(range(1, 5), (1, 2, 5, 12)))


def edge_looks(lists, things):
    """No looks, all of them, all but a line, all asked, and all of these together."""
    asks = all_asks(lists, things)
    looks = [([0] * lists, []), ([things] * lists, []), ([things - 1] * lists, []), ([0] * lists, asks)]
    looks += [([things] * lists, asks), ([1] * lists, asks[::2]), ([things] + [0] * (lists - 1), [])]
    return looks + [([0] * (lists - 1) + [1], asks[-1:])]


class SeenWorths(Case):
    def test_written_out(self):
        none = [[None] * 4, [None] * 4]
        self.told(none, seen_worths, BOOK, ([0, 0], []))
        self.told([[None, None, ALL, None], [None] * 4], seen_worths, BOOK, ([1, 0], []))
        self.told([[None, HALF, ALL, None], [HALF, None, None, None]], seen_worths, BOOK, ([2, 1], []))
        self.told([[None] * 4, [None, None, NONE, None]], seen_worths, BOOK, ([0, 0], [(1, 2)]))
        self.told([[(1, 3), None, ALL, None], [None] * 4], seen_worths, BOOK, ([1, 0], [(0, 0), (0, 2)]))
        self.told(BOOK, seen_worths, BOOK, ([4, 4], []))
        self.told(BOOK, seen_worths, BOOK, ([0, 0], all_asks(2, 4)))

    def test_all_sizes(self):
        numbers = Numbers(21)
        for lists, things in SIZES:
            book = numbers.book(lists, things, 1)
            for looks in edge_looks(lists, things) + [numbers.looks(lists, things) for turn in range(6)]:
                self.told(wanted_seen(book, looks), seen_worths, book, looks)

    def test_refusals(self):
        for thing in no_books():
            for looks in (([0], []), None):
                self.refused(NoBook, seen_worths, thing, looks)
        for lists, things in ((1, 1), (2, 3), (4, 12)):
            for looks in no_looks(lists, things):
                self.refused(NoLooks, seen_worths, size(lists, things), looks)

    def test_what_is_changed_later_changes_nothing_told(self):
        book, depths, asked = [[HALF, (1, 3)]], [1], [(0, 1)]
        seen = seen_worths(book, (depths, asked))
        book[0][0] = ALL
        depths[0] = 0
        asked.clear()
        self.assertEqual([[HALF, (1, 3)]], seen)


class CountOf(Case):
    def test_written_out(self):
        self.told((0, 0), count_of, BOOK, ([0, 0], []))
        self.told((3, 0), count_of, BOOK, ([1, 2], []))
        self.told((0, 2), count_of, BOOK, ([0, 0], [(0, 1), (1, 1)]))
        self.told((8, 0), count_of, BOOK, ([4, 4], all_asks(2, 4)))

    def test_what_is_asked_and_read_counts_as_read(self):
        self.told((1, 0), count_of, BOOK, ([1, 0], [(0, 2)]))
        self.told((1, 1), count_of, BOOK, ([1, 0], [(0, 1), (0, 2)]))
        self.told((2, 1), count_of, BOOK, ([2, 0], [(0, 1), (0, 2), (1, 2)]))

    def test_all_sizes(self):
        numbers = Numbers(22)
        for lists, things in SIZES:
            book = numbers.book(lists, things, 1)
            for looks in edge_looks(lists, things) + [numbers.looks(lists, things) for turn in range(6)]:
                self.told(count_looks(book, looks), count_of, book, looks)

    def test_refusals(self):
        for thing in no_books():
            for looks in (([0], []), None):
                self.refused(NoBook, count_of, thing, looks)
        for lists, things in ((1, 1), (2, 3), (4, 12)):
            for looks in no_looks(lists, things):
                self.refused(NoLooks, count_of, size(lists, things), looks)


class WorthBounds(Case):
    def test_written_out(self):
        shares = ("shares", [(1, 1), (2, 1)])
        self.told([(NONE, (3, 1))] * 4, worth_bounds, BOOK, shares, ([0, 0], []))
        wanted = [((1, 1), (3, 2)), (HALF, (3, 2)), (ALL, (2, 1)), (NONE, (3, 2))]
        self.told(wanted, worth_bounds, BOOK, shares, ([2, 1], []))
        wanted = [(NONE, (1, 4)), ((1, 8), (1, 8)), (NONE, HALF), (NONE, (1, 4))]
        self.told(wanted, worth_bounds, BOOK, ("product",), ([2, 1], [(1, 0), (1, 1)]))

    def test_no_line_read(self):
        for rule in rules(2):
            low, high = wanted_worths([[NONE, ALL], [NONE, ALL]], rule)
            self.told([(low, high)] * 4, worth_bounds, BOOK, rule, ([0, 0], []))

    def test_all_lines_read_or_asked(self):
        for rule in rules(2):
            wanted = [(worth, worth) for worth in wanted_worths(BOOK, rule)]
            asks = all_asks(2, 4)
            for looks in (([4, 4], []), ([0, 0], asks), ([4, 4], asks), ([4, 0], asks[4:])):
                self.told(wanted, worth_bounds, BOOK, rule, looks)

    def test_a_last_read_line_of_nought_or_one(self):
        book = [[NONE, NONE, NONE], [ALL, ALL, ALL]]
        for depth in (1, 2):
            nought = [(NONE, NONE)] * 3
            one = [(ALL, ALL)] * depth + [(NONE, ALL)] * (3 - depth)
            self.told(nought, worth_bounds, book, ("least",), ([depth, 0], []))
            self.told(one, worth_bounds, book, ("greatest",), ([3, depth], []))

    def test_an_asked_worth_moves_no_other_high(self):
        book = [[(3, 4), HALF, (1, 4)]]
        self.told([(NONE, ALL), (NONE, ALL), ((1, 4), (1, 4))], worth_bounds, book, ("least",), ([0], [(0, 2)]))
        wanted = [((3, 4), (3, 4)), (NONE, (3, 4)), ((1, 4), (1, 4))]
        self.told(wanted, worth_bounds, book, ("least",), ([1], [(0, 2)]))

    def test_all_sizes_and_rules(self):
        numbers = Numbers(23)
        for lists, things in SIZES:
            book = numbers.book(lists, things, 1 + 11 * numbers.below(2))
            for looks in edge_looks(lists, things) + [numbers.looks(lists, things) for turn in range(2)]:
                for rule in rules(lists):
                    self.told(wanted_bounds(book, rule, looks), worth_bounds, book, rule, looks)

    def test_refusals(self):
        for thing in no_books():
            self.refused(NoBook, worth_bounds, thing, ("least",), ([0], []))
        for lists in range(1, 5):
            for thing in no_rules(lists):
                self.refused(NoRule, worth_bounds, size(lists, 2), thing, ([0] * lists, []))
        for lists, things in ((1, 1), (2, 3), (4, 12)):
            for looks in no_looks(lists, things):
                self.refused(NoLooks, worth_bounds, size(lists, things), ("least",), looks)

    def test_the_first_named_refusal_is_told(self):
        for looks in (([0, 0], []), None, ([0], [])):
            self.refused(NoBook, worth_bounds, [[]], None, looks)
            self.refused(NoBook, worth_bounds, [[]], ("least",), looks)
            self.refused(NoRule, worth_bounds, size(2, 2), ("middle", 3), looks)


def open_worths(book, looks, row, thing):
    """Some worths that a thing may have by the looks: the seen one, else 0, nearly the last read one, and this."""
    order = wanted_order(book[row])
    depth = looks[0][row]
    if thing in order[:depth] or (row, thing) in looks[1]:
        return [book[row][thing]]
    last = number(book[row][order[depth - 1]]) if depth else Fraction(1)
    return sorted({NONE, pair(max(last - Fraction(1, 10000), Fraction(0))), pair(last)})


def agreeing_books(book, looks):
    lists, things = len(book), len(book[0])
    choices = [open_worths(book, looks, row, thing) for row, thing in all_asks(lists, things)]
    for worths in product(*choices):
        other = [list(worths[row * things:(row + 1) * things]) for row in range(lists)]
        if agrees(other, book, looks):
            yield other


class SureFew(Case):
    def test_written_out(self):
        self.told(None, sure_few, BOOK, ("least",), 1, ([0, 0], []))
        self.told(None, sure_few, BOOK, ("least",), 1, ([3, 1], []))
        self.told(None, sure_few, BOOK, ("least",), 1, ([4, 1], []))
        self.told([0], sure_few, BOOK, ("least",), 1, ([4, 2], []))
        self.told([0], sure_few, BOOK, ("least",), 1, ([0, 2], [(0, 0)]))
        self.told([2], sure_few, BOOK, ("greatest",), 1, ([1, 0], []))
        self.told([0, 2], sure_few, BOOK, ("greatest",), 2, ([2, 1], [(0, 0), (1, 2)]))

    def test_none_wanted_and_all_wanted(self):
        for lists, things in SIZES:
            for looks in edge_looks(lists, things):
                for rule in rules(lists):
                    self.told([], sure_few, size(lists, things), rule, 0, looks)
                    self.told(list(range(things)), sure_few, size(lists, things), rule, things, looks)

    def test_like_bounds(self):
        # A low that is no less than the highs of all others is enough.
        self.told([0], sure_few, [[HALF, HALF, HALF]], ("least",), 1, ([1], []))
        self.told([0, 1], sure_few, [[HALF, HALF, HALF]], ("least",), 2, ([2], []))
        self.told([1], sure_few, [[NONE, HALF, HALF]], ("least",), 1, ([1], []))
        self.told([0, 2], sure_few, [[HALF, (1, 3), ALL]], ("product",), 2, ([2], []))
        self.told(None, sure_few, [[HALF, (1, 3), ALL]], ("product",), 2, ([1], []))

    def test_of_several_sure_lists_greater_lows_then_greater_highs_then_lesser_things_go_ahead(self):
        self.told([0, 1], sure_few, size(1, 4), ("least",), 2, ([4], []))
        # All have the low 1/2; things 2 and 3 have a greater high.
        book = [[HALF, HALF, HALF, HALF], [HALF, HALF, (1, 4), (1, 4)]]
        looks = ([4, 0], [(1, 0), (1, 1)])
        self.told([2, 3], sure_few, book, ("greatest",), 2, looks)
        self.told([0, 2, 3], sure_few, book, ("greatest",), 3, looks)
        self.told(None, sure_few, book, ("greatest",), 1, looks)

    def test_weights_of_nought(self):
        for looks in edge_looks(2, 4):
            self.told([0, 1], sure_few, BOOK, ("shares", [NONE, NONE]), 2, looks)
        # The second list is of no weight, so what isn't seen in it doesn't matter.
        self.told([2], sure_few, BOOK, ("shares", [ALL, NONE]), 1, ([1, 0], []))
        self.told(None, sure_few, BOOK, ("shares", [ALL, (1, 10 ** 12 - 1)]), 1, ([1, 4], [(0, 1)]))

    def test_a_last_read_line_of_nought_or_one(self):
        self.told([0], sure_few, [[NONE, NONE, NONE]], ("least",), 1, ([1], []))
        self.told(None, sure_few, [[NONE, NONE, NONE]], ("least",), 1, ([0], []))
        self.told([0], sure_few, [[ALL, ALL, ALL]], ("least",), 1, ([1], []))
        self.told([0, 1], sure_few, [[ALL, ALL, NONE]], ("least",), 2, ([2], []))
        self.told([0], sure_few, [[HALF, ALL], [NONE, NONE]], ("product",), 1, ([0, 1], []))

    def test_a_lesser_thing_that_cannot_reach_the_last_worth_is_held_by_its_high_all_the_same(self):
        # Thing 0 is less than thing 1, whose line is read last, so it is worth less; but it can come near.
        book = [[(1, 4), HALF], [HALF, HALF]]
        self.told([1], sure_few, book, ("least",), 1, ([1, 2], []))
        book = [[(1, 4), HALF], [HALF, (49999, 100000)]]
        self.told(None, sure_few, book, ("least",), 1, ([1, 2], []))

    def test_all_sizes_rules_and_counts(self):
        numbers = Numbers(24)
        for lists, things in SIZES:
            for turn in range(3):
                book = numbers.book(lists, things, (1, 2, 12)[turn])
                for looks in edge_looks(lists, things) + [numbers.looks(lists, things) for again in range(3)]:
                    rule = numbers.rule(lists, 1)
                    for count in sorted({0, 1, 2, things - 1, things} & set(range(things + 1))):
                        self.told(wanted_sure(book, rule, count, looks), sure_few, book, rule, count, looks)

    def test_few_worths_and_each_rule(self):
        numbers = Numbers(25)
        for turn in range(150):
            lists, things = 1 + numbers.below(4), 1 + numbers.below(6)
            book, looks = numbers.grid(lists, things, 4), numbers.looks(lists, things)
            count = numbers.below(things + 1)
            for rule in rules(lists):
                self.told(wanted_sure(book, rule, count, looks), sure_few, book, rule, count, looks)

    def test_sure_is_what_is_best_in_every_book_that_agrees(self):
        numbers = Numbers(26)
        told = []
        for turn in range(120):
            lists, things = ((1, 4), (2, 3), (3, 2), (2, 2))[turn % 4]
            book, looks = numbers.grid(lists, things, 4), numbers.looks(lists, things)
            rule = (rules(lists)[:-1] + [("shares", [(1, 3)] * lists)] * 3)[numbers.below(len(rules(lists)) + 2)]
            count = numbers.below(things + 1)
            sure = [list(few) for few in combinations(range(things), count)]
            for other in agreeing_books(book, looks):
                sure = [few for few in sure if is_best_few(other, rule, few)]
            # The document's own test of bounds tells the same.
            self.assertEqual(sure_lists(wanted_bounds(book, rule, looks), count), sure, (book, rule, count, looks))
            told.append(self.ask(sure_few, book, rule, count, looks))
            self.assertTrue(told[-1] in sure if sure else told[-1] is None, (book, rule, count, looks))
        self.assertGreater(told.count(None), 20)
        self.assertGreater(len([few for few in told if few]), 20)

    def test_the_largest_is_told_soon(self):
        numbers = Numbers(27)
        book = numbers.book(4, 12, 12)
        for rule in rules(4):
            for looks in edge_looks(4, 12):
                self.soon(sure_few, book, rule, 6, looks)
                self.soon(worth_bounds, book, rule, looks)

    def test_refusals(self):
        for thing in no_books():
            self.refused(NoBook, sure_few, thing, ("least",), 0, ([0], []))
        for lists in range(1, 5):
            for thing in no_rules(lists):
                self.refused(NoRule, sure_few, size(lists, 2), thing, 0, ([0] * lists, []))
        for things in (1, 2, 12):
            for thing in no_counts(things):
                self.refused(NoCount, sure_few, size(2, things), ("least",), thing, ([0, 0], []))
        for lists, things in ((1, 1), (2, 3), (4, 12)):
            for looks in no_looks(lists, things):
                for count in (0, things):
                    self.refused(NoLooks, sure_few, size(lists, things), ("least",), count, looks)

    def test_the_first_named_refusal_is_told(self):
        for looks in (([0, 0], []), None, ([0], []), ([0, True], [])):
            for count in (0, True, None, -1, 3):
                for rule in (("least",), None):
                    self.refused(NoBook, sure_few, [[]], rule, count, looks)
                self.refused(NoRule, sure_few, size(2, 2), ("middle", 3), count, looks)
            for count in (True, None, -1, 3):
                self.refused(NoCount, sure_few, size(2, 2), ("least",), count, looks)


if __name__ == "__main__":
    unittest.main()
