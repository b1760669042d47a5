import unittest
from itertools import product

from helper import Case, HALF, NO_NUMBERS, Numbers, no_books, size, wanted_order

from bestheads.books import is_book, read_order
from bestheads.errors import NoBook, NoList


class IsBook(Case):
    def test_all_sizes(self):
        numbers = Numbers(3)
        for lists in range(1, 5):
            for things in range(1, 13):
                self.told(True, is_book, size(lists, things))
                self.told(True, is_book, numbers.book(lists, things, 12))

    def test_sizes_beyond(self):
        for lists, things in product(range(0, 7), range(0, 16)):
            self.told(1 <= lists <= 4 and 1 <= things <= 12, is_book, size(lists, things))

    def test_worths_of_nought_and_one(self):
        self.told(True, is_book, [[(0, 1)], [(1, 1)]])

    def test_anything_else(self):
        for thing in no_books():
            self.told(False, is_book, thing)

    def test_the_same_list_twice(self):
        row = [HALF, (1, 3)]
        self.told(True, is_book, [row, row])


class ReadOrder(Case):
    def test_written_out(self):
        book = [[(1, 3), (1, 2), (0, 1), (1, 1)], [(1, 2), (2, 3), (1, 2), (2, 3)]]
        self.told([3, 1, 0, 2], read_order, book, 0)
        self.told([1, 3, 0, 2], read_order, book, 1)

    def test_all_sizes(self):
        numbers = Numbers(4)
        for lists, things, figures in product(range(1, 5), range(1, 13), (1, 2, 12)):
            book = numbers.book(lists, things, figures)
            for number in range(lists):
                self.told(wanted_order(book[number]), read_order, book, number)

    def test_every_row_of_three_worths(self):
        for things in range(1, 6):
            for row in product(((0, 1), (1, 2), (1, 1)), repeat=things):
                self.told(wanted_order(row), read_order, [list(row)], 0)

    def test_of_like_worths_the_lesser_thing_goes_first(self):
        for worth in ((0, 1), HALF, (1, 1)):
            self.told(list(range(12)), read_order, [[worth] * 12], 0)
        self.told([1, 3, 0, 2, 4], read_order, [[HALF, (2, 3), HALF, (2, 3), HALF]], 0)

    def test_worths_that_differ_in_the_last_figure_alone(self):
        row = [(10 ** 12 - 3, 10 ** 12 - 2), (10 ** 12 - 2, 10 ** 12 - 1), (10 ** 12 - 4, 10 ** 12 - 3), (1, 1)]
        self.told([3, 1, 0, 2], read_order, [row], 0)

    def test_no_book(self):
        for thing in no_books():
            self.refused(NoBook, read_order, thing, 0)

    def test_no_number_of_a_list(self):
        for lists in range(1, 5):
            for number in NO_NUMBERS + [lists, lists + 1, -lists]:
                self.refused(NoList, read_order, size(lists, 2), number)

    def test_no_book_is_told_ahead_of_no_list(self):
        for number in NO_NUMBERS + [4]:
            for thing in (None, [], [[]], size(5, 1), size(1, 13), [[(2, 4)]], (1, 2)):
                self.refused(NoBook, read_order, thing, number)

    def test_a_told_list_is_the_askers_own(self):
        book = [[(1, 3), (1, 2), (1, 1)], [(1, 2), (1, 2), (1, 2)]]
        for number, wanted in ((0, [2, 1, 0]), (1, [0, 1, 2])):
            told = read_order(book, number)
            told.append(7)
            told[0] = None
            self.told(wanted, read_order, book, number)

    def test_a_book_that_is_changed_later_changes_nothing_told(self):
        book = [[(1, 3), (1, 2), (1, 1)]]
        told = read_order(book, 0)
        book[0][0] = (1, 1)
        self.assertEqual([2, 1, 0], told)
        self.told([0, 2, 1], read_order, book, 0)
        book[0].clear()
        self.assertEqual([2, 1, 0], told)
        self.refused(NoBook, read_order, book, 0)


if __name__ == "__main__":
    unittest.main()
