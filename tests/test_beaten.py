import unittest
from itertools import product

from helper import Case, HALF, Numbers, no_books, number, pair, size

from bestheads.beaten import book_layers, unbeaten
from bestheads.best import best_few
from bestheads.errors import NoBook

NONE = (0, 1)
ALL = (1, 1)
THIRD = (1, 3)


def beats(book, one, other):
    """By the words of the document."""
    signs = [number(row[one]) - number(row[other]) for row in book]
    return min(signs) >= 0 and max(signs) > 0


def wanted_layers(book):
    rest, layers = list(range(len(book[0]))), []
    while rest:
        layers.append([thing for thing in rest if not any(beats(book, other, thing) for other in rest)])
        rest = [thing for thing in rest if thing not in layers[-1]]
    return layers


class Beaten(Case):
    def check(self, layers, book):
        self.told(layers[0], unbeaten, book)
        self.told(layers, book_layers, book)

    def test_written_out(self):
        self.check([[0]], [[HALF]])
        self.check([[1], [0]], [[THIRD, HALF]])
        self.check([[0, 1]], [[THIRD, HALF], [HALF, THIRD]])
        self.check([[1, 3], [0, 2]], [[THIRD, HALF, THIRD, NONE], [THIRD, THIRD, THIRD, ALL]])
        self.check([[3], [2], [1], [0]], [[NONE, THIRD, HALF, ALL], [NONE, THIRD, HALF, ALL]])

    def test_like_worths_do_not_beat(self):
        for lists, things in product(range(1, 5), (1, 2, 12)):
            self.check([list(range(things))], size(lists, things))
        self.check([[0, 2], [1, 3]], [[HALF, THIRD, HALF, THIRD]])
        self.check([[0, 1], [2, 3]], [[HALF, HALF, THIRD, THIRD], [ALL, ALL, ALL, ALL]])

    def test_more_in_one_list_and_like_in_the_others_beats(self):
        for lists in range(1, 5):
            for place in range(lists):
                book = size(lists, 2)
                book[place][1] = (500000000001, 10 ** 12)
                self.check([[1], [0]], book)
                book[place][0] = (500000000003, 10 ** 12)
                self.check([[0], [1]], book)

    def test_more_in_one_list_and_less_in_another_does_not_beat(self):
        for lists in range(2, 5):
            for one, other in product(range(lists), repeat=2):
                if one != other:
                    book = size(lists, 2)
                    book[one][0], book[other][1] = ALL, ALL
                    self.check([[0, 1]], book)

    def test_a_thing_that_one_thing_alone_beats(self):
        # Thing 2 is beaten by thing 1 alone, thing 3 by things 1 and 2.
        book = [[ALL, (3, 4), HALF, HALF], [NONE, HALF, HALF, THIRD]]
        self.check([[0, 1], [2], [3]], book)
        # When that one is worth nothing, thing 2 is unbeaten.
        self.check([[0, 2], [3], [1]], [[ALL, NONE, HALF, HALF], [NONE, NONE, HALF, THIRD]])

    def test_beating_among_the_beaten_counts_for_later_layers(self):
        book = [[ALL, HALF, HALF, THIRD], [ALL, HALF, THIRD, HALF]]
        self.check([[0], [1], [2, 3]], book)

    def test_by_the_documents_words(self):
        numbers = Numbers(71)
        depths = []
        for turn in range(300):
            lists, things = 1 + numbers.below(4), 1 + numbers.below(12)
            parts = (2, 5, 10 ** 12 - 1)[numbers.below(3)]
            book = numbers.grid(lists, things, parts)
            self.check(wanted_layers(book), book)
            depths.append(len(wanted_layers(book)))
        self.assertGreater(max(depths), 5)

    def test_a_best_few_lies_within_as_many_layers(self):
        numbers = Numbers(72)
        for turn in range(100):
            lists, things = 1 + numbers.below(4), 1 + numbers.below(12)
            book = numbers.book(lists, things, 1)
            weights = [pair(abs(numbers.fraction(2))) for row in range(lists)]
            layers = self.ask(book_layers, book)
            for count in range(things + 1):
                first = [thing for layer in layers[:count] for thing in layer]
                for thing, worth in best_few(book, ("shares", weights), count):
                    self.assertIn(thing, first)

    def test_layers_hold_each_thing_once(self):
        numbers = Numbers(73)
        for turn in range(50):
            book = numbers.book(1 + numbers.below(4), 12, 12)
            layers = self.ask(book_layers, book)
            self.assertEqual(list(range(12)), sorted(thing for layer in layers for thing in layer))
            self.assertEqual([sorted(layer) for layer in layers], layers)
            self.assertNotIn([], layers)

    def test_the_largest_is_told_soon(self):
        numbers = Numbers(74)
        self.soon(unbeaten, numbers.book(4, 12, 12))
        self.soon(book_layers, numbers.book(4, 12, 12))
        self.soon(book_layers, [[(thing, 13) for thing in range(1, 13)] for row in range(4)])

    def test_refusals(self):
        for thing in no_books():
            self.refused(NoBook, unbeaten, thing)
            self.refused(NoBook, book_layers, thing)


if __name__ == "__main__":
    unittest.main()
