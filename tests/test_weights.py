import unittest
from fractions import Fraction
from itertools import combinations, product

from helper import Case, HALF, Numbers, no_books, no_counts, number, pair, size, wanted_few

from bestheads.best import best_few
from bestheads.errors import NoBook, NoCount, TooMany
from bestheads.weights import weight_stretches

NONE = (0, 1)
ALL = (1, 1)


def things_at(book, weight, count):
    """The things of the best few at a weight, reckoned by Python's own Fractions."""
    return sorted(thing for thing, worth in wanted_few(book, ("shares", [pair(weight), pair(1 - weight)]), count))


def meetings(book):
    """All weights strictly between 0 and 1 at which two things that are unlike elsewhere are worth alike."""
    found = set()
    for one, other in combinations(range(len(book[0])), 2):
        at_one = number(book[0][one]) - number(book[0][other])
        at_nought = number(book[1][one]) - number(book[1][other])
        if at_one * at_nought < 0:
            found.add(at_nought / (at_nought - at_one))
    return sorted(found)


def some_weights(book):
    """The weights 0 to 1 where things meet, some a hair beside them, and some in the middle of two."""
    edges = [Fraction(0)] + meetings(book) + [Fraction(1)]
    hair = min(high - low for low, high in zip(edges, edges[1:])) / 1000
    weights = [(low + high) / 2 for low, high in zip(edges, edges[1:])] + edges
    weights += [edge + hair for edge in edges[:-1]] + [edge - hair for edge in edges[1:]]
    return sorted(weights)


class WeightStretches(Case):
    def check(self, book, count):
        told = self.ask(weight_stretches, book, count)
        given = (book, count)
        self.assertIs(list, type(told))
        self.assertEqual(((0, 1), (1, 1)), (told[0][0], told[-1][1]), given)
        for start, end, things in told:
            self.assertLess(number(start), number(end), given)
            self.assertEqual((start, end), (pair(number(start)), pair(number(end))), given)
        for one, other in zip(told, told[1:]):
            self.assertEqual(one[1], other[0], given)
            self.assertNotEqual(one[2], other[2], given)
        for weight in some_weights(book):
            for start, end, things in told:
                if number(start) < weight < number(end):
                    self.assertEqual(things_at(book, weight, count), things, (given, weight))
        before = repr(told)
        for stretch in told:
            stretch[2].append("spoilt")
        self.assertEqual(before, repr(self.ask(weight_stretches, book, count)))
        return told

    def test_written_out(self):
        self.told([(NONE, HALF, [1]), (HALF, ALL, [0])], weight_stretches, [[ALL, NONE], [NONE, ALL]], 1)
        book = [[ALL, HALF, NONE], [NONE, (3, 4), ALL]]
        # Thing 0 and thing 1 meet at 3/5, things 1 and 2 at 1/3.
        wanted = [(NONE, (1, 3), [2]), ((1, 3), (3, 5), [1]), ((3, 5), ALL, [0])]
        self.told(wanted, weight_stretches, book, 1)
        # Things 0 and 2 meet at 1/2.
        self.told([(NONE, HALF, [1, 2]), (HALF, ALL, [0, 1])], weight_stretches, book, 2)
        # The other way round the weights are mirrored.
        wanted = [(NONE, (2, 5), [0]), ((2, 5), (2, 3), [1]), ((2, 3), ALL, [2])]
        self.told(wanted, weight_stretches, book[::-1], 1)

    def test_none_wanted_and_all_wanted(self):
        numbers = Numbers(81)
        for things in (1, 2, 8, 12):
            book = numbers.book(2, things, 1)
            self.told([(NONE, ALL, [])], weight_stretches, book, 0)
            self.told([(NONE, ALL, list(range(things)))], weight_stretches, book, things)

    def test_one_stretch_from_0_to_1(self):
        self.told([(NONE, ALL, [1])], weight_stretches, [[HALF, ALL], [HALF, ALL]], 1)
        self.told([(NONE, ALL, [1])], weight_stretches, [[HALF, ALL], [HALF, HALF]], 1)
        # They meet, but in the few both stay.
        self.told([(NONE, ALL, [0, 2])], weight_stretches, [[ALL, NONE, HALF], [HALF, NONE, ALL]], 2)
        # Both below the few meet.
        self.told([(NONE, ALL, [1])], weight_stretches, [[HALF, ALL, NONE], [NONE, ALL, HALF]], 1)

    def test_things_that_meet_at_0_or_1_alone_part_nothing(self):
        # At the weight 0 thing 0 is worth as much as thing 1, but not within the stretch.
        self.told([(NONE, ALL, [1])], weight_stretches, [[HALF, ALL], [ALL, ALL]], 1)
        self.told([(NONE, ALL, [1])], weight_stretches, [[ALL, ALL], [HALF, ALL]], 1)

    def test_things_alike_in_both_lists(self):
        for count in (1, 2, 3):
            self.told([(NONE, ALL, list(range(count)))], weight_stretches, size(2, 4), count)
        # Of like things the lesser ones are taken.
        book = [[NONE, ALL, ALL, NONE], [ALL, NONE, NONE, ALL]]
        self.told([(NONE, HALF, [0]), (HALF, ALL, [1])], weight_stretches, book, 1)
        self.told([(NONE, HALF, [0, 3]), (HALF, ALL, [1, 2])], weight_stretches, book, 2)
        self.told([(NONE, HALF, [0, 1, 3]), (HALF, ALL, [0, 1, 2])], weight_stretches, book, 3)

    def test_three_things_that_are_worth_alike_where_stretches_meet(self):
        book = [[NONE, HALF, ALL], [ALL, HALF, NONE]]
        self.told([(NONE, HALF, [0]), (HALF, ALL, [2])], weight_stretches, book, 1)
        self.told([(NONE, HALF, [0, 1]), (HALF, ALL, [1, 2])], weight_stretches, book, 2)
        # At 1/2 itself best_few has thing 0, the least of three like ones, which is best nowhere else.
        book = [[HALF, ALL, NONE], [HALF, NONE, ALL]]
        self.told([(NONE, HALF, [2]), (HALF, ALL, [1])], weight_stretches, book, 1)
        self.told([(0, HALF)], best_few, book, ("shares", [HALF, HALF]), 1)

    def test_all_counts_of_small_books(self):
        numbers = Numbers(82)
        stretches = []
        for turn in range(150):
            things, parts = 1 + numbers.below(8), (2, 3, 6)[numbers.below(3)]
            book = numbers.grid(2, things, parts)
            for count in range(things + 1):
                stretches.append(len(self.check(book, count)))
        self.assertGreater(max(stretches), 4)

    def test_long_fractions(self):
        numbers = Numbers(83)
        for things in (2, 5, 8, 12):
            book = numbers.book(2, things, 12)
            for count in sorted({1, things // 2, things - 1}):
                self.check(book, count)

    def test_a_very_short_stretch(self):
        # Thing 1 is a hair above the meeting of things 0 and 2.
        book = [[ALL, (250000000001, 500000000000), NONE], [NONE, HALF, ALL]]
        low, high = (250000000000, 500000000001), (250000000000, 499999999999)
        self.told([(NONE, low, [2]), (low, high, [1]), (high, ALL, [0])], weight_stretches, book, 1)
        self.check(book, 1)

    def test_the_largest_is_told_soon(self):
        numbers = Numbers(84)
        for things in (8, 12):
            book = numbers.book(2, things, 12)
            crossing = [[pair(Fraction(thing ** 2, 144)) for thing in range(things)],
                        [pair(1 - Fraction(thing, 12)) for thing in range(things)]]
            for count in range(things + 1):
                self.soon(weight_stretches, book, count)
                self.soon(weight_stretches, crossing, count)
                self.check(crossing, count)

    def test_refusals(self):
        for thing in no_books():
            self.refused(NoBook, weight_stretches, thing, 0)
        for things in (1, 2, 8):
            for thing in no_counts(things):
                self.refused(NoCount, weight_stretches, size(2, things), thing)
        for lists, things in product((1, 3, 4), (1, 2, 8, 12)):
            for count in (0, things):
                self.refused(TooMany, weight_stretches, size(lists, things), count)

    def test_the_first_named_refusal_is_told(self):
        for count in (0, True, None, -1, 3):
            self.refused(NoBook, weight_stretches, [[]], count)
            self.refused(NoBook, weight_stretches, size(5, 2), count)
        for lists in (1, 2, 3, 4):
            for count in (True, False, None, -1, 3):
                self.refused(NoCount, weight_stretches, size(lists, 2), count)

    def test_what_is_changed_later_changes_nothing_told(self):
        book = [[ALL, NONE], [NONE, ALL]]
        told = weight_stretches(book, 1)
        book[0].reverse()
        book[1].clear()
        self.assertEqual([(NONE, HALF, [1]), (HALF, ALL, [0])], told)


if __name__ == "__main__":
    unittest.main()
