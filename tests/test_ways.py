import unittest
from fractions import Fraction
from itertools import product

from helper import (
    Case, HALF, Numbers, no_books, no_counts, no_rules, number, pair, rules, size, wanted_order, wanted_sure,
)

from bestheads.errors import NoBook, NoCount, NoRule, TooMany
from bestheads.looks import count_of, sure_few
from bestheads.ways import by_asking, by_hope, by_rounds, least_reading

NONE = (0, 1)
ALL = (1, 1)
WAYS = (by_rounds, by_asking, by_hope, least_reading)
BOOK = [[(9, 10), (4, 5), (1, 10), NONE], [(1, 10), (7, 10), (4, 5), NONE]]
SUM = ("shares", [(1, 1), (1, 1)])


def wanted_rounds(book, rule, count):
    rounds = 0
    while wanted_sure(book, rule, count, ([rounds] * len(book), [])) is None:
        rounds += 1
    return (rounds, wanted_sure(book, rule, count, ([rounds] * len(book), [])))


def wanted_asking(book, rule, count):
    """Told thing by thing, as the document does."""
    orders = [wanted_order(row) for row in book]
    rounds, asked = 0, set()
    while True:
        looks = ([rounds] * len(book), sorted(asked))
        things = wanted_sure(book, rule, count, looks)
        if things is not None:
            return (rounds, looks, things)
        rounds += 1
        for thing in range(len(book[0])):
            if any(order.index(thing) < rounds for order in orders):
                asked |= {(row, thing) for row, order in enumerate(orders) if order.index(thing) >= rounds}


def wanted_hope(book, rule, count):
    orders = [wanted_order(row) for row in book]
    depths = [0] * len(book)
    while True:
        things = wanted_sure(book, rule, count, (depths, []))
        if things is not None:
            return ((depths, []), things)
        best = None
        for place, row in enumerate(book):
            last = number(row[orders[place][depths[place] - 1]]) if depths[place] else Fraction(1)
            if depths[place] < len(row) and (best is None or last > best[0]):
                best = (last, place)
        depths[best[1]] += 1


def wanted_least(book, rule, count):
    found = []
    for depths in product(range(len(book[0]) + 1), repeat=len(book)):
        if wanted_sure(book, rule, count, (list(depths), [])) is not None:
            found.append((sum(depths), list(depths)))
    depths = min(found)[1]
    return (depths, wanted_sure(book, rule, count, (depths, [])))


WANTED = {by_rounds: wanted_rounds, by_asking: wanted_asking, by_hope: wanted_hope}


class Ways(Case):
    def test_written_out(self):
        self.told((3, [1]), by_rounds, BOOK, SUM, 1)
        self.told((2, ([2, 2], [(0, 2), (1, 0)]), [1]), by_asking, BOOK, SUM, 1)
        self.told((([3, 3], []), [1]), by_hope, BOOK, SUM, 1)
        self.told(([3, 3], [1]), least_reading, BOOK, SUM, 1)

    def test_none_wanted_and_all_wanted_need_no_line(self):
        for lists, things in product(range(1, 5), (1, 2, 8, 12)):
            none = [0] * lists
            for rule in rules(lists):
                for count, few in ((0, []), (things, list(range(things)))):
                    self.told((0, few), by_rounds, size(lists, things), rule, count)
                    self.told((0, (none, []), few), by_asking, size(lists, things), rule, count)
                    self.told(((none, []), few), by_hope, size(lists, things), rule, count)
                    if lists <= 3 and things <= 8:
                        self.told((none, few), least_reading, size(lists, things), rule, count)

    def test_weights_of_nought_need_no_line(self):
        rule = ("shares", [NONE, NONE])
        self.told((0, [0, 1]), by_rounds, BOOK, rule, 2)
        self.told((0, ([0, 0], []), [0, 1]), by_asking, BOOK, rule, 2)
        self.told((([0, 0], []), [0, 1]), by_hope, BOOK, rule, 2)
        self.told(([0, 0], [0, 1]), least_reading, BOOK, rule, 2)

    def test_all_lines_are_needed(self):
        book = [[ALL, HALF], [(1, 4), (1, 3)]]
        self.told((2, [1]), by_rounds, book, ("least",), 1)
        self.told((([2, 1], []), [1]), by_hope, book, ("least",), 1)
        self.told((1, ([1, 1], [(0, 1), (1, 0)]), [1]), by_asking, book, ("least",), 1)
        book = [[ALL, (1, 4)], [(1, 4), HALF]]
        self.told((2, [0]), by_rounds, book, ("least",), 1)
        self.told((([2, 2], []), [0]), by_hope, book, ("least",), 1)
        self.told(([2, 2], [0]), least_reading, book, ("least",), 1)

    def test_each_way_by_its_words(self):
        numbers = Numbers(41)
        for way in WAYS[:3]:
            for lists, things, figures in product(range(1, 5), (1, 2, 5, 9), (1, 12)):
                for turn in range(2):
                    book, rule = numbers.book(lists, things, figures), numbers.rule(lists, figures)
                    for count in sorted({1, things // 2, things - 1}):
                        self.told(WANTED[way](book, rule, count), way, book, rule, count)

    def test_each_way_with_few_worths_and_each_rule(self):
        numbers = Numbers(42)
        for turn in range(25):
            lists, things = 1 + numbers.below(4), 1 + numbers.below(6)
            book, count = numbers.grid(lists, things, 3), numbers.below(things + 1)
            for rule in rules(lists):
                for way in WAYS[:3]:
                    self.told(WANTED[way](book, rule, count), way, book, rule, count)

    def test_twelve_things_and_four_lists(self):
        numbers = Numbers(43)
        for way in WAYS[:3]:
            for rule in (("shares", [(1, 1)] * 4), ("least",), ("product",)):
                for book in (numbers.book(4, 12, 1), numbers.grid(4, 12, 3)):
                    self.told(WANTED[way](book, rule, 1), way, book, rule, 1)

    def test_the_things_are_those_of_sure_few_and_no_lesser_round_is_enough(self):
        numbers = Numbers(44)
        for turn in range(60):
            lists, things = 1 + numbers.below(4), 1 + numbers.below(12)
            book, rule, count = numbers.grid(lists, things, 3), numbers.rule(lists, 1), numbers.below(things + 1)
            rounds, few = self.ask(by_rounds, book, rule, count)
            self.assertEqual(few, sure_few(book, rule, count, ([rounds] * lists, [])))
            for less in range(rounds):
                self.assertIsNone(sure_few(book, rule, count, ([less] * lists, [])))
            rounds, looks, few = self.ask(by_asking, book, rule, count)
            self.assertEqual(few, sure_few(book, rule, count, looks))
            self.assertEqual([rounds] * lists, looks[0])
            looks, few = self.ask(by_hope, book, rule, count)
            self.assertEqual(few, sure_few(book, rule, count, looks))
            self.assertEqual([], looks[1])

    def test_the_largest_is_told_soon(self):
        numbers = Numbers(45)
        for turn in range(3):
            book = numbers.book(4, 12, 12)
            for rule in rules(4) + [numbers.rule(4, 12)]:
                for count in (1, 6, 11):
                    for way in WAYS[:3]:
                        self.soon(way, book, rule, count)

    def test_refusals(self):
        for way in WAYS:
            for thing in no_books():
                self.refused(NoBook, way, thing, ("least",), 0)
            for lists in range(1, 4):
                for thing in no_rules(lists):
                    self.refused(NoRule, way, size(lists, 2), thing, 0)
            for things in (1, 2, 8):
                for thing in no_counts(things):
                    self.refused(NoCount, way, size(2, things), ("least",), thing)

    def test_the_first_named_refusal_is_told(self):
        for way in WAYS:
            for count in (0, True, None, -1, 3):
                for rule in (("least",), None):
                    self.refused(NoBook, way, size(5, 13), rule, count)
                self.refused(NoRule, way, size(2, 2), ("middle", 3), count)

    def test_what_is_changed_later_changes_nothing_told(self):
        for way in WAYS:
            book, weights = [list(row) for row in BOOK], [(1, 1), (1, 1)]
            told = way(book, ("shares", weights), 1)
            before = repr(told)
            weights[0] = NONE
            book[0][0] = NONE
            book[1].clear()
            self.assertEqual(before, repr(told))


class ByAsking(Case):
    def test_what_is_read_later_stays_asked(self):
        # Behind the first round things 2 and 0 are asked; their lines are read in the third round.
        looks = ([3, 3], [(0, 2), (1, 0)])
        self.told((3, looks, [0, 1]), by_asking, BOOK, SUM, 2)
        self.told((6, 0), count_of, BOOK, looks)

    def test_what_is_read_in_the_same_round_is_not_asked(self):
        book = [[ALL, HALF, HALF], [ALL, HALF, HALF]]
        self.told((1, ([1, 1], []), [0]), by_asking, book, ("least",), 1)
        self.told((1, ([1], []), [0]), by_asking, [[ALL, HALF]], ("least",), 1)

    def test_asking_goes_on_in_a_whole_round_though_less_were_enough(self):
        # Thing 1 is sure as soon as both its worths are known; thing 0 is asked all the same.
        book = [[(1, 4), ALL, (1, 4)], [ALL, ALL, HALF]]
        self.told((1, ([1, 1], [(0, 0), (1, 1)]), [1]), by_asking, book, ("shares", [(4, 1), (1, 1)]), 1)


class ByHope(Case):
    def test_of_like_last_worths_the_first_list_is_read(self):
        # Both lists are at 1 when none is read, and both begin with 1.
        book = [[ALL, ALL, ALL, NONE], [ALL, ALL, ALL, NONE]]
        self.told((([1, 0], []), [0]), by_hope, book, ("greatest",), 1)
        self.told((([4, 0], []), [0, 1, 2]), by_hope, book, ("least",), 3)

    def test_a_list_that_is_read_to_its_end_is_read_no_more(self):
        book = [[ALL, ALL], [NONE, HALF]]
        self.told((([2, 1], []), [1]), by_hope, book, ("product",), 1)
        book = [[ALL, ALL, ALL], [(1, 4), HALF, (3, 4)], [ALL, ALL, ALL]]
        self.told((([3, 2, 3], []), [1, 2]), by_hope, book, ("least",), 2)

    def test_the_list_with_the_greatest_last_worth_is_read(self):
        book = [[HALF, (1, 4), NONE], [NONE, (3, 4), (2, 3)]]
        self.told((([1, 2], []), [1, 2]), by_hope, book, ("shares", [NONE, ALL]), 2)


class LeastReading(Case):
    def test_of_like_sums_the_least_list(self):
        book = [[ALL, NONE], [ALL, NONE], [ALL, NONE]]
        self.told(([0, 0, 1], [0]), least_reading, book, ("greatest",), 1)
        self.told(([0, 0, 2], [0]), least_reading, book, ("least",), 1)
        self.told(([0, 1, 1], [0]), least_reading, book, ("middle", 2), 1)

    def test_the_least_sum_goes_ahead_of_the_least_list(self):
        # List 0 shows it by one line, list 1 by two.
        book = [[NONE, NONE, HALF, ALL], [HALF, NONE, HALF, HALF]]
        self.told(([1, 0], [3]), least_reading, book, ("shares", [ALL, NONE]), 1)

    def test_by_its_words(self):
        numbers = Numbers(46)
        for lists, things in ((1, 1), (1, 8), (2, 2), (2, 5), (3, 3)):
            for turn in range(4):
                book = numbers.book(lists, things, 12) if turn == 0 else numbers.grid(lists, things, 3)
                for rule in rules(lists)[:7] + [numbers.rule(lists, 1)]:
                    for count in sorted({1, things // 2, things - 1}):
                        self.told(wanted_least(book, rule, count), least_reading, book, rule, count)

    def test_the_largest_by_its_words(self):
        numbers = Numbers(47)
        for rule in (("shares", [(1, 1), (1, 2), (0, 1)]), ("product",), ("middle", 2)):
            book = numbers.book(3, 8, 1)
            self.told(wanted_least(book, rule, 2), least_reading, book, rule, 2)

    def test_it_reads_no_more_than_rounds_and_hope(self):
        numbers = Numbers(48)
        for turn in range(40):
            lists, things = 1 + numbers.below(3), 1 + numbers.below(8)
            book, rule, count = numbers.book(lists, things, 1), numbers.rule(lists, 1), numbers.below(things + 1)
            depths, few = self.ask(least_reading, book, rule, count)
            self.assertEqual(few, sure_few(book, rule, count, (depths, [])))
            self.assertLessEqual(sum(depths), by_rounds(book, rule, count)[0] * lists)
            self.assertLessEqual(sum(depths), sum(by_hope(book, rule, count)[0][0]))

    def test_the_largest_is_told_soon(self):
        numbers = Numbers(49)
        book = numbers.book(3, 8, 12)
        rising = [[(10 ** 11 + thing, 10 ** 12 - 1 - row) for thing in range(8)] for row in range(3)]
        for rule in rules(3) + [("shares", [pair(abs(numbers.fraction(12))) for row in range(3)])]:
            for count in (1, 4, 7):
                self.soon(least_reading, book, rule, count)
                self.soon(least_reading, [[pair(number(worth)) for worth in row] for row in rising], rule, count)

    def test_too_many(self):
        for lists, things in product(range(1, 5), range(1, 13)):
            if lists > 3 or things > 8:
                for count in (0, 1, things):
                    self.refused(TooMany, least_reading, size(lists, things), ("least",), count)
            else:
                self.ask(least_reading, size(lists, things), ("least",), 0)

    def test_too_many_is_told_last(self):
        for book in (size(4, 12), size(4, 1), size(3, 9)):
            for count in (True, None, -1, 13):
                self.refused(NoRule, least_reading, book, ("middle", 5), count)
                self.refused(NoCount, least_reading, book, ("least",), count)
            self.refused(NoRule, least_reading, book, ("least", 1), 0)
        self.refused(NoBook, least_reading, size(5, 9), ("least",), 0)


if __name__ == "__main__":
    unittest.main()
