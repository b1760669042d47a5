import unittest
from fractions import Fraction
from itertools import product

from helper import (
    Case, HALF, NO_NUMBERS, Numbers, all_asks, is_best_few, no_books, no_counts, no_rules, number, pair, rules, size,
    wanted_few,
)

from bestheads.best import best_few
from bestheads.errors import NoBook, NoCount, NoList, NoRule, NoThing
from bestheads.rooms import few_room

NONE = (0, 1)
ALL = (1, 1)
THIRD = (1, 3)
QUARTER = (1, 4)
SUM = ("shares", [ALL, ALL])
# Narrower than any two edges of the rooms here lie apart.
HAIR = Fraction(1, 10 ** 200)


def with_worth(book, place, thing, worth):
    book = [list(row) for row in book]
    book[place][thing] = worth
    return book


class FewRoom(Case):
    def check(self, book, rule, count, place, thing):
        """The things of best_few are a best few at both edges, and just outside of them they are none."""
        given = (book, rule, count, place, thing)
        told = self.ask(few_room, *given)
        self.assertIs(tuple, type(told))
        low, high = [number(edge) for edge in told]
        self.assertEqual((pair(low), pair(high)), told, given)
        self.assertTrue(0 <= low <= number(book[place][thing]) <= high <= 1, (given, told))
        things = [own for own, worth in wanted_few(book, rule, count)]
        for worth in (low, high):
            self.assertTrue(is_best_few(with_worth(book, place, thing, pair(worth)), rule, things), (given, told))
        for worth in (low - HAIR, high + HAIR):
            if 0 <= worth <= 1:
                self.assertFalse(is_best_few(with_worth(book, place, thing, pair(worth)), rule, things), (given, told))
        self.assertEqual(ALL if thing in things else NONE, told[thing in things], (given, told))
        self.told(told, few_room, *given)
        return told

    def test_written_out(self):
        book = [[(3, 4), HALF, QUARTER], [HALF, HALF, QUARTER]]
        # By the sum the things are worth 5/4, 1 and 1/2.
        self.told((HALF, ALL), few_room, book, SUM, 1, 0, 0)
        self.told((QUARTER, ALL), few_room, book, SUM, 1, 1, 0)
        self.told((NONE, (3, 4)), few_room, book, SUM, 1, 0, 1)
        self.told((NONE, (3, 4)), few_room, book, SUM, 1, 1, 1)
        self.told((NONE, ALL), few_room, book, SUM, 1, 0, 2)
        self.told((NONE, ALL), few_room, book, SUM, 2, 0, 0)
        self.told((NONE, ALL), few_room, book, SUM, 2, 1, 1)
        self.told((NONE, (3, 4)), few_room, book, SUM, 2, 0, 2)

    def test_a_room_of_one_of_the_few_ends_at_1_and_of_another_thing_begins_at_0(self):
        # By no rule a thing is worth less for a greater worth, so no room has both edges in between.
        book = [[HALF, THIRD]]
        for rule in rules(1)[:3] + [("shares", [(7, 2)])]:
            self.told((THIRD, ALL), few_room, book, rule, 1, 0, 0)
            self.told((NONE, HALF), few_room, book, rule, 1, 0, 1)
        book = [[HALF, HALF]]
        self.told((HALF, ALL), few_room, book, ("least",), 1, 0, 0)
        self.told((NONE, HALF), few_room, book, ("least",), 1, 0, 1)

    def test_none_wanted_and_all_wanted(self):
        numbers = Numbers(91)
        for lists, things in product(range(1, 5), (1, 2, 12)):
            book = numbers.book(lists, things, 2)
            for rule in rules(lists):
                for place, thing in ((0, 0), (lists - 1, things - 1)):
                    for count in (0, things):
                        self.told((NONE, ALL), few_room, book, rule, count, place, thing)

    def test_weights_of_nought(self):
        book = [[HALF, THIRD], [THIRD, HALF]]
        for place, thing in all_asks(2, 2):
            self.told((NONE, ALL), few_room, book, ("shares", [NONE, NONE]), 1, place, thing)
        for thing in (0, 1):
            self.told((NONE, ALL), few_room, book, ("shares", [ALL, NONE]), 1, 1, thing)
        self.told((THIRD, ALL), few_room, book, ("shares", [ALL, NONE]), 1, 0, 0)
        self.told((NONE, HALF), few_room, book, ("shares", [ALL, NONE]), 1, 0, 1)
        self.told((THIRD, ALL), few_room, book, ("shares", [NONE, (1, 9)]), 1, 1, 1)

    def test_least(self):
        book = [[HALF, THIRD, QUARTER], [HALF, ALL, ALL]]
        self.told((THIRD, ALL), few_room, book, ("least",), 1, 0, 0)
        self.told((THIRD, ALL), few_room, book, ("least",), 1, 1, 0)
        self.told((NONE, HALF), few_room, book, ("least",), 1, 0, 1)
        # Thing 1 stays below by its first worth, whatever its second one is.
        self.told((NONE, ALL), few_room, book, ("least",), 1, 1, 1)

    def test_greatest(self):
        book = [[HALF, THIRD, NONE], [QUARTER, QUARTER, THIRD]]
        self.told((THIRD, ALL), few_room, book, ("greatest",), 1, 0, 0)
        self.told((NONE, ALL), few_room, book, ("greatest",), 1, 1, 0)
        self.told((NONE, HALF), few_room, book, ("greatest",), 1, 0, 1)
        self.told((NONE, HALF), few_room, book, ("greatest",), 1, 1, 2)

    def test_middle_at_each_place(self):
        book = [[(4, 5), (1, 5)], [(3, 5), (2, 5)], [(2, 5), (2, 5)]]
        # By the first place the things are worth 4/5 and 2/5.
        self.told((NONE, ALL), few_room, book, ("middle", 1), 1, 0, 0)
        self.told((NONE, ALL), few_room, book, ("middle", 1), 1, 1, 0)
        self.told((NONE, (4, 5)), few_room, book, ("middle", 1), 1, 0, 1)
        # By the second 3/5 and 2/5, and no single worth makes it another order.
        for place, thing in all_asks(3, 2):
            self.told((NONE, ALL), few_room, book, ("middle", 2), 1, place, thing)
        # By the third 2/5 and 1/5.
        self.told(((1, 5), ALL), few_room, book, ("middle", 3), 1, 2, 0)
        self.told(((1, 5), ALL), few_room, book, ("middle", 3), 1, 0, 0)
        self.told((NONE, ALL), few_room, book, ("middle", 3), 1, 0, 1)
        self.told((NONE, ALL), few_room, book, ("middle", 3), 1, 2, 1)
        book = [[(4, 5), (1, 5)], [(3, 5), (2, 5)], [(1, 5), (4, 5)]]
        # By the second 3/5 and 2/5 again, but the third worth of thing 1 stands ahead.
        self.told((NONE, (3, 5)), few_room, book, ("middle", 2), 1, 0, 1)
        self.told((NONE, (3, 5)), few_room, book, ("middle", 2), 1, 1, 1)
        self.told((NONE, ALL), few_room, book, ("middle", 2), 1, 2, 1)
        self.told((NONE, ALL), few_room, book, ("middle", 2), 1, 2, 0)
        self.told(((2, 5), ALL), few_room, book, ("middle", 2), 1, 0, 0)
        self.told(((2, 5), ALL), few_room, book, ("middle", 2), 1, 1, 0)

    def test_product(self):
        book = [[HALF, THIRD, NONE], [HALF, HALF, ALL]]
        self.told((THIRD, ALL), few_room, book, ("product",), 1, 0, 0)
        self.told((NONE, HALF), few_room, book, ("product",), 1, 0, 1)
        self.told((NONE, (3, 4)), few_room, book, ("product",), 1, 1, 1)
        self.told((NONE, QUARTER), few_room, book, ("product",), 1, 0, 2)
        self.told((NONE, ALL), few_room, book, ("product",), 1, 1, 2)
        # A product of nothing stays nothing.
        book = [[NONE, NONE], [HALF, HALF]]
        self.told((NONE, ALL), few_room, book, ("product",), 1, 1, 0)
        self.told((NONE, ALL), few_room, book, ("product",), 1, 1, 1)
        self.told((NONE, ALL), few_room, book, ("product",), 1, 0, 0)
        self.told((NONE, NONE), few_room, book, ("product",), 1, 0, 1)

    def test_each_rule_with_few_worths(self):
        numbers = Numbers(92)
        told = []
        for turn in range(90):
            lists, things = 1 + numbers.below(4), 2 + numbers.below(4)
            book, count = numbers.grid(lists, things, 1 + numbers.below(4)), numbers.below(things + 1)
            for rule in rules(lists):
                place, thing = numbers.below(lists), numbers.below(things)
                told.append(self.check(book, rule, count, place, thing))
        self.assertGreater(len([room for room in told if room[0] != NONE]), 50)
        self.assertGreater(len([room for room in told if room[1] != ALL]), 50)

    def test_long_fractions(self):
        numbers = Numbers(93)
        for lists, things in product(range(1, 5), (2, 5, 12)):
            book = numbers.book(lists, things, 12)
            for rule in rules(lists) + [numbers.rule(lists, 12)]:
                for count in sorted({1, things // 2, things - 1}):
                    self.check(book, rule, count, numbers.below(lists), numbers.below(things))

    def test_what_was_told_may_be_handed_in_again(self):
        numbers = Numbers(94)
        for rule in rules(3):
            book = numbers.book(3, 5, 3)
            for turn in range(4):
                place, thing = numbers.below(3), numbers.below(5)
                book[place][thing] = self.check(book, rule, 2, place, thing)[numbers.below(2)]

    def test_the_largest_is_told_soon(self):
        numbers = Numbers(95)
        book = numbers.book(4, 12, 12)
        for rule in rules(4) + [numbers.rule(4, 12)]:
            for count in (0, 1, 6, 12):
                for place, thing in all_asks(4, 12)[::5]:
                    self.soon(few_room, book, rule, count, place, thing)

    def test_refusals(self):
        for thing in no_books():
            self.refused(NoBook, few_room, thing, ("least",), 0, 0, 0)
        for lists in range(1, 5):
            for thing in no_rules(lists):
                self.refused(NoRule, few_room, size(lists, 2), thing, 0, 0, 0)
        for things in (1, 2, 12):
            for thing in no_counts(things):
                self.refused(NoCount, few_room, size(2, things), ("least",), thing, 0, 0)
        for lists, things in ((1, 1), (2, 3), (4, 12)):
            for thing in NO_NUMBERS + [lists, lists + 1, (lists,), str(lists)]:
                for own in (0, None, True, -1, things):
                    self.refused(NoList, few_room, size(lists, things), ("least",), 1, thing, own)
            for thing in NO_NUMBERS + [things, things + 1, (things,), str(things)]:
                self.refused(NoThing, few_room, size(lists, things), ("least",), 1, lists - 1, thing)

    def test_the_first_named_refusal_is_told(self):
        for place, thing in product((0, True, None, -1, 2), repeat=2):
            for count in (0, True, None, -1, 3):
                for rule in (("least",), None):
                    self.refused(NoBook, few_room, [[]], rule, count, place, thing)
                self.refused(NoRule, few_room, size(2, 2), ("middle", 3), count, place, thing)
            for count in (True, None, -1, 3):
                self.refused(NoCount, few_room, size(2, 2), ("least",), count, place, thing)

    def test_the_things_are_those_of_best_few(self):
        # All are like, so best_few has the lesser ones, and these are to stay a best few.
        book = size(1, 4)
        self.told([(0, HALF), (1, HALF)], best_few, book, ("least",), 2)
        for thing in (0, 1):
            self.told((HALF, ALL), few_room, book, ("least",), 2, 0, thing)
        for thing in (2, 3):
            self.told((NONE, HALF), few_room, book, ("least",), 2, 0, thing)


if __name__ == "__main__":
    unittest.main()
