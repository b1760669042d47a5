import unittest
from fractions import Fraction
from itertools import combinations, product

from helper import (
    Case, HALF, Numbers, agrees, all_asks, is_best_few, no_books, no_looks, no_rules, no_thing_lists, number, rules,
    size, sure_lists, wanted_bounds,
)

from bestheads.best import best_few
from bestheads.books import is_book
from bestheads.errors import NoBook, NoLooks, NoRule, NoThings
from bestheads.looks import sure_few
from bestheads.others import other_book

NONE = (0, 1)
ALL = (1, 1)


class OtherBook(Case):
    def check(self, book, rule, things, looks):
        """None just for sure things, else a book that agrees and has a thing that is worth more than one of them."""
        given = (book, rule, things, looks)
        told = self.ask(other_book, *given)
        if things in sure_lists(wanted_bounds(book, rule, looks), len(things)):
            self.assertIsNone(told, given)
            return None
        self.assertIs(True, is_book(told), given)
        self.assertTrue(agrees(told, book, looks), given)
        self.assertFalse(is_best_few(told, rule, things), given)
        # Asked again, the same is told, though what was told is spoilt.
        before = repr(told)
        for row in told:
            row.clear()
        self.assertEqual(before, repr(other_book(*given)), given)
        return other_book(*given)

    def test_no_line_read(self):
        for rule in (("least",), ("greatest",), ("product",), ("middle", 2), ("shares", [HALF, HALF])):
            for things in ([0], [1], [2], [0, 1], [1, 2]):
                self.assertIsNotNone(self.check(size(2, 3), rule, things, ([0, 0], [])))

    def test_all_lines_read_or_asked(self):
        book = [[(1, 3), HALF, ALL], [HALF, (1, 4), NONE]]
        for looks in (([3, 3], []), ([0, 0], all_asks(2, 3)), ([3, 0], all_asks(2, 3))):
            for rule in rules(2):
                for many in range(4):
                    for few in combinations(range(3), many):
                        told = self.check(book, rule, list(few), looks)
                        # All is seen, so only the book itself agrees.
                        self.assertEqual(None if is_best_few(book, rule, few) else book, told)

    def test_none_and_all_things_are_sure(self):
        for lists, things in product(range(1, 5), (1, 2, 12)):
            for looks in (([0] * lists, []), ([1] * lists, []), ([things] * lists, all_asks(lists, things))):
                for rule in rules(lists):
                    self.told(None, other_book, size(lists, things), rule, [], looks)
                    self.told(None, other_book, size(lists, things), rule, list(range(things)), looks)

    def test_like_worths(self):
        # Each of them is sure where all worths are seen to be like.
        for things in ([0], [1], [2], [0, 2]):
            self.told(None, other_book, size(2, 3), ("least",), things, ([3, 3], []))
        self.told(None, other_book, [[HALF, HALF, HALF]], ("least",), [0], ([1], []))
        self.assertIsNotNone(self.check([[HALF, HALF, HALF]], ("least",), [1], ([1], [])))

    def test_a_last_read_line_of_nought_or_one(self):
        self.told(None, other_book, [[NONE, NONE, NONE]], ("least",), [2], ([1], []))
        self.assertIsNotNone(self.check([[NONE, NONE], [HALF, HALF]], ("greatest",), [0], ([1, 0], [])))
        self.told(None, other_book, [[NONE, NONE], [HALF, HALF]], ("product",), [1], ([1, 0], []))
        self.assertIsNotNone(self.check([[ALL, ALL, ALL]], ("least",), [1], ([1], [])))
        self.assertIsNotNone(self.check([[HALF, ALL]], ("least",), [0], ([1], [])))

    def test_a_lesser_thing_cannot_have_the_last_worth_but_any_below(self):
        # Thing 0 is to be worth more than thing 2 without having the last read worth 1/2 itself.
        near = (499999999999, 999999999999)
        book = [[(1, 4), HALF, (1, 3)], [HALF, HALF, HALF]]
        for rule in (("least",), ("product",), ("middle", 2), ("shares", [(1, 3), (2, 1)])):
            self.assertIsNotNone(self.check(book, rule, [1, 2], ([1, 3], [])))
        book = [[(1, 4), HALF, near], [HALF, HALF, HALF]]
        for rule in (("least",), ("product",), ("middle", 2), ("shares", [(1, 3), (2, 1)])):
            told = self.check(book, rule, [1, 2], ([1, 3], [(0, 2)]))
            self.assertTrue(number(near) < number(told[0][0]) < Fraction(1, 2))

    def test_seen_worths_stay(self):
        # Thing 1 is asked in list 0 and also read there.
        book = [[(1, 4), HALF, (1, 3)], [HALF, HALF, HALF]]
        told = self.check(book, ("least",), [0], ([2, 0], [(0, 1), (0, 2), (1, 0)]))
        self.assertEqual([HALF, (1, 3), HALF], [told[0][1], told[0][2], told[1][0]])

    def test_all_sizes_and_rules(self):
        numbers = Numbers(31)
        told = []
        for lists, things, figures in product(range(1, 5), (1, 2, 4, 12), (1, 12)):
            for turn in range(6):
                book, looks = numbers.book(lists, things, figures), numbers.looks(lists, things)
                few = [thing for thing in range(things) if numbers.below(2)]
                for rule in rules(lists) + [numbers.rule(lists, 12)]:
                    if things < 12 or turn < 2:
                        told.append(self.check(book, rule, few, looks))
        self.assertGreater(told.count(None), 100)
        self.assertGreater(len(told) - told.count(None), 100)

    def test_few_worths_and_all_lists_of_things(self):
        numbers = Numbers(32)
        for turn in range(60):
            lists, things = 1 + numbers.below(3), 1 + numbers.below(4)
            book = numbers.grid(lists, things, 3)
            looks, rule = numbers.looks(lists, things), numbers.rule(lists, 1)
            for many in range(things + 1):
                for few in combinations(range(things), many):
                    self.check(book, rule, list(few), looks)

    def test_sure_things_have_no_other_book(self):
        numbers = Numbers(33)
        for turn in range(200):
            lists, things = 1 + numbers.below(4), 1 + numbers.below(12)
            book, looks, rule = numbers.book(lists, things, 1), numbers.looks(lists, things), numbers.rule(lists, 1)
            few = sure_few(book, rule, numbers.below(things + 1), looks)
            if few is not None:
                self.told(None, other_book, book, rule, few, looks)

    def test_what_was_told_may_be_handed_in_again(self):
        numbers = Numbers(34)
        for turn in range(20):
            book, rule = numbers.book(4, 12, 12), numbers.rule(4, 12)
            for depth in range(5):
                few = sorted(thing for thing, worth in best_few(book, rule, 3))
                told = self.check(book, rule, few, ([depth] * 4, [(0, 0), (3, 11)]))
                book = told or book

    def test_the_largest_is_told_soon(self):
        numbers = Numbers(35)
        book = numbers.book(4, 12, 12)
        for rule in rules(4) + [numbers.rule(4, 12)]:
            for depth in range(13):
                self.soon(other_book, book, rule, [0, 3, 4, 5, 11], ([depth] * 4, [(0, 0), (2, 3)]))

    def test_refusals(self):
        for thing in no_books():
            self.refused(NoBook, other_book, thing, ("least",), [], ([0], []))
        for lists in range(1, 5):
            for thing in no_rules(lists):
                self.refused(NoRule, other_book, size(lists, 2), thing, [0], ([0] * lists, []))
        for things in (1, 2, 12):
            for thing in no_thing_lists(things):
                self.refused(NoThings, other_book, size(2, things), ("least",), thing, ([0, 0], []))
        for lists, things in ((1, 1), (2, 3), (4, 12)):
            for looks in no_looks(lists, things):
                for few in ([], [0], list(range(things))):
                    self.refused(NoLooks, other_book, size(lists, things), ("least",), few, looks)

    def test_the_first_named_refusal_is_told(self):
        for looks in (([0, 0], []), None, ([0], []), ([0, True], [])):
            for few in ([0], [True], None, [1, 0], [0, 0], [2]):
                for rule in (("least",), None):
                    self.refused(NoBook, other_book, [[]], rule, few, looks)
                self.refused(NoRule, other_book, size(2, 2), ("middle", 3), few, looks)
            for few in ([True], None, [1, 0], [0, 0], [2]):
                self.refused(NoThings, other_book, size(2, 2), ("least",), few, looks)


if __name__ == "__main__":
    unittest.main()
