import unittest
from itertools import product

from helper import (
    Case, HALF, Numbers, is_best_few, no_books, no_counts, no_rules, rules, size, wanted_few, wanted_worths,
)

from bestheads.best import best_few, thing_worths
from bestheads.errors import NoBook, NoCount, NoRule

BOOK = [[(1, 3), (1, 2), (1, 1), (1, 2)], [(1, 2), (1, 4), (0, 1), (1, 4)]]


class ThingWorths(Case):
    def test_written_out(self):
        self.told([(5, 6), (3, 4), (1, 1), (3, 4)], thing_worths, BOOK, ("shares", [(1, 1), (1, 1)]))
        self.told([(1, 1), (1, 2), (0, 1), (1, 2)], thing_worths, BOOK, ("shares", [(0, 1), (2, 1)]))
        self.told([(1, 3), (1, 4), (0, 1), (1, 4)], thing_worths, BOOK, ("least",))
        self.told([(1, 2), (1, 2), (1, 1), (1, 2)], thing_worths, BOOK, ("greatest",))
        self.told([(1, 3), (1, 4), (0, 1), (1, 4)], thing_worths, BOOK, ("middle", 2))
        self.told([(1, 6), (1, 8), (0, 1), (1, 8)], thing_worths, BOOK, ("product",))

    def test_weights_of_nought_alone(self):
        self.told([(0, 1)] * 4, thing_worths, BOOK, ("shares", [(0, 1), (0, 1)]))

    def test_all_sizes_and_rules(self):
        numbers = Numbers(11)
        for lists, things in product(range(1, 5), (1, 2, 7, 12)):
            for figures in (1, 12):
                book = numbers.book(lists, things, figures)
                for rule in rules(lists):
                    self.told(wanted_worths(book, rule), thing_worths, book, rule)

    def test_refusals(self):
        for thing in no_books():
            self.refused(NoBook, thing_worths, thing, ("least",))
        for lists in range(1, 5):
            for thing in no_rules(lists):
                self.refused(NoRule, thing_worths, size(lists, 2), thing)

    def test_no_book_is_told_ahead_of_no_rule(self):
        for thing in no_books():
            for rule in (None, ("least", 1), ("middle", 5), ("shares", [])):
                self.refused(NoBook, thing_worths, thing, rule)


class BestFew(Case):
    def test_written_out(self):
        rule = ("shares", [(1, 1), (1, 1)])
        self.told([], best_few, BOOK, rule, 0)
        self.told([(2, (1, 1))], best_few, BOOK, rule, 1)
        self.told([(2, (1, 1)), (0, (5, 6)), (1, (3, 4))], best_few, BOOK, rule, 3)
        self.told([(2, (1, 1)), (0, (5, 6)), (1, (3, 4)), (3, (3, 4))], best_few, BOOK, rule, 4)
        self.told([(0, (1, 3)), (1, (1, 4))], best_few, BOOK, ("least",), 2)

    def test_of_like_worths_the_lesser_thing_goes_first(self):
        for count in range(13):
            self.told([(thing, HALF) for thing in range(count)], best_few, size(4, 12), ("least",), count)
        worths = [(thing, (0, 1)) for thing in range(4)]
        self.told(worths, best_few, BOOK, ("shares", [(0, 1), (0, 1)]), 4)
        self.told([(2, (1, 1)), (0, HALF), (1, HALF)], best_few, BOOK, ("greatest",), 3)

    def test_one_thing(self):
        self.told([], best_few, [[HALF]], ("product",), 0)
        self.told([(0, HALF)], best_few, [[HALF]], ("product",), 1)

    def test_all_sizes_rules_and_counts(self):
        numbers = Numbers(12)
        for lists, things, figures in product(range(1, 5), (1, 2, 5, 12), (1, 12)):
            book = numbers.book(lists, things, figures)
            for rule in rules(lists):
                for count in sorted({0, 1, things // 2, things - 1, things}):
                    self.told(wanted_few(book, rule, count), best_few, book, rule, count)

    def test_the_few_are_a_best_few(self):
        numbers = Numbers(13)
        for turn in range(100):
            lists, things = 1 + numbers.below(4), 1 + numbers.below(12)
            book, rule = numbers.book(lists, things, 1), numbers.rule(lists, 1)
            few = [thing for thing, worth in self.ask(best_few, book, rule, numbers.below(things + 1))]
            self.assertTrue(is_best_few(book, rule, few))

    def test_worths_that_differ_far_behind(self):
        # The worths differ by less than one part of ten to the power 23.
        row = [(10 ** 12 - 3, 10 ** 12 - 2), (10 ** 12 - 2, 10 ** 12 - 1), (10 ** 12 - 4, 10 ** 12 - 3)]
        wanted = [(1, row[1]), (0, row[0]), (2, row[2])]
        self.told(wanted, best_few, [row], ("least",), 3)
        self.told(wanted_few([row] * 4, ("product",), 3), best_few, [row] * 4, ("product",), 3)

    def test_what_was_told_may_be_handed_in_again(self):
        numbers = Numbers(14)
        worths = thing_worths(numbers.book(4, 12, 12), ("product",))
        for rule in rules(1):
            self.told(wanted_few([worths], rule, 12), best_few, [worths], rule, 12)

    def test_the_largest_is_told_soon(self):
        numbers = Numbers(15)
        book = numbers.book(4, 12, 12)
        for rule in rules(4):
            self.soon(best_few, book, rule, 12)
            self.soon(thing_worths, book, rule)

    def test_refusals(self):
        for thing in no_books():
            self.refused(NoBook, best_few, thing, ("least",), 0)
        for lists in range(1, 5):
            for thing in no_rules(lists):
                self.refused(NoRule, best_few, size(lists, 2), thing, 0)
        for things in (1, 2, 12):
            for thing in no_counts(things):
                self.refused(NoCount, best_few, size(3, things), ("least",), thing)

    def test_the_first_named_refusal_is_told(self):
        for count in (None, True, -1, 13):
            for rule in (("least",), ("least", 1), None):
                self.refused(NoBook, best_few, [[]], rule, count)
            self.refused(NoRule, best_few, size(2, 2), ("middle", 3), count)

    def test_what_is_changed_later_changes_nothing_told(self):
        book, weights = [[(1, 3), HALF], [HALF, (1, 4)]], [(1, 1), (1, 1)]
        few, worths = best_few(book, ("shares", weights), 2), thing_worths(book, ("shares", weights))
        weights[0] = (9, 1)
        book[0][1] = (0, 1)
        book[1].append(None)
        self.assertEqual([(0, (5, 6)), (1, (3, 4))], few)
        self.assertEqual([(5, 6), (3, 4)], worths)


if __name__ == "__main__":
    unittest.main()
