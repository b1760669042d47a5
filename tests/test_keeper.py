import unittest
from fractions import Fraction
from itertools import product

from helper import (
    Case, HALF, NO_NUMBERS, NO_WORTHS, Numbers, all_asks, is_best_few, no_books, no_counts, no_rules, number, pair,
    rules, size, wanted_few,
)

from bestheads.errors import NoBook, NoCount, NoList, NoRule, NoThing, NoWorth
from bestheads.keeper import Keeper
from bestheads.rooms import few_room

NONE = (0, 1)
ALL = (1, 1)
THIRD = (1, 3)
QUARTER = (1, 4)
LEAST = ("least",)
HAIR = Fraction(1, 10 ** 300)


class Model:
    """What a Keeper keeps, by the words of the document."""

    def __init__(self, book, rule, count):
        self.book, self.rule, self.count = [list(row) for row in book], rule, count
        self.kept = self.best()
        self.before, self.exchanges = self.kept, 0

    def best(self):
        return sorted(thing for thing, worth in wanted_few(self.book, self.rule, self.count))

    def put(self, place, thing, worth):
        self.book[place][thing] = worth
        if is_best_few(self.book, self.rule, self.kept):
            return False
        self.kept = self.best()
        self.exchanges += 1
        return True

    def come(self):
        kept, before = set(self.kept), set(self.before)
        self.before = self.kept
        return (sorted(kept - before), sorted(before - kept))


class KeeperTest(Case):
    def same(self, model, keeper):
        self.told(model.kept, keeper.things)
        self.told(model.book, keeper.book)
        self.told(wanted_few(model.book, model.rule, model.count), keeper.few)
        self.told(model.exchanges, keeper.exchanges)

    def test_written_out(self):
        keeper = Keeper([[HALF, THIRD, QUARTER]], LEAST, 1)
        self.told([0], keeper.things)
        self.told([[HALF, THIRD, QUARTER]], keeper.book)
        self.told([(0, HALF)], keeper.few)
        self.told(0, keeper.exchanges)
        self.told((THIRD, ALL), keeper.room, 0, 0)
        self.told((NONE, HALF), keeper.room, 0, 2)
        self.assertIs(True, self.ask(keeper.put, 0, 2, ALL))
        self.told([2], keeper.things)
        self.told([[HALF, THIRD, ALL]], keeper.book)
        self.told([(2, ALL)], keeper.few)
        self.told(1, keeper.exchanges)
        self.told((HALF, ALL), keeper.room, 0, 2)
        self.assertEqual(([2], [0]), self.ask(keeper.come))

    def test_kept_things_stay_among_like_ones(self):
        keeper = Keeper([[HALF, THIRD, QUARTER]], LEAST, 1)
        keeper.put(0, 2, ALL)
        # Thing 0 is now as good as thing 2, and best_few would tell it, but thing 2 is kept.
        self.assertIs(False, self.ask(keeper.put, 0, 0, ALL))
        self.told([2], keeper.things)
        self.told([(0, ALL)], keeper.few)
        self.told(1, keeper.exchanges)
        # Its room is that of the kept thing, not of best_few's.
        self.told((ALL, ALL), keeper.room, 0, 2)
        self.told((NONE, ALL), keeper.room, 0, 0)
        self.told((ALL, ALL), few_room, keeper.book(), LEAST, 1, 0, 0)
        self.assertIs(True, self.ask(keeper.put, 0, 2, HALF))
        self.told([0], keeper.things)
        self.told(2, keeper.exchanges)

    def test_the_present_worth(self):
        for rule in rules(2):
            book = [[HALF, THIRD, QUARTER], [THIRD, HALF, HALF]]
            keeper = Keeper(book, rule, 2)
            things = keeper.things()
            for place, thing in all_asks(2, 3):
                self.assertIs(False, self.ask(keeper.put, place, thing, book[place][thing]))
            self.told(things, keeper.things)
            self.told(book, keeper.book)
            self.told(0, keeper.exchanges)
            self.assertEqual(([], []), keeper.come())

    def test_an_exchange_and_the_exchange_back(self):
        keeper = Keeper([[HALF, THIRD]], LEAST, 1)
        self.assertIs(True, keeper.put(0, 1, ALL))
        self.assertIs(True, keeper.put(0, 1, THIRD))
        self.told([0], keeper.things)
        self.told(2, keeper.exchanges)
        # Things that came and went in between are not told.
        self.assertEqual(([], []), self.ask(keeper.come))

    def test_come(self):
        keeper = Keeper([[HALF, THIRD, QUARTER, NONE]], LEAST, 2)
        self.assertEqual(([], []), self.ask(keeper.come))
        keeper.put(0, 3, ALL)
        keeper.put(0, 2, ALL)
        self.assertEqual(([2, 3], [0, 1]), self.ask(keeper.come))
        self.assertEqual(([], []), self.ask(keeper.come))
        keeper.put(0, 2, NONE)
        self.assertEqual(([0], [2]), self.ask(keeper.come))
        keeper.put(0, 0, ALL)
        self.assertEqual(([], []), self.ask(keeper.come))
        self.told([0, 3], keeper.things)

    def test_come_tells_rising_lists(self):
        keeper = Keeper([[HALF] * 3 + [NONE] * 3], LEAST, 3)
        for thing in (5, 3, 4):
            keeper.put(0, thing, ALL)
        self.assertEqual(([3, 4, 5], [0, 1, 2]), self.ask(keeper.come))

    def test_none_kept_and_all_kept(self):
        for count, things in ((0, []), (3, [0, 1, 2])):
            keeper = Keeper([[HALF, THIRD, QUARTER]], LEAST, count)
            for thing, worth in product(range(3), (NONE, HALF, ALL)):
                self.assertIs(False, self.ask(keeper.put, 0, thing, worth))
                self.told((NONE, ALL), keeper.room, 0, thing)
            self.told(things, keeper.things)
            self.told(0, keeper.exchanges)
            self.assertEqual(([], []), keeper.come())
        self.told([(0, ALL), (1, ALL), (2, ALL)], keeper.few)

    def test_many_puts_by_the_documents_words(self):
        numbers = Numbers(101)
        exchanged, kept_others = 0, 0
        for turn in range(150):
            lists, things = 1 + numbers.below(4), 1 + numbers.below(6)
            rule = (rules(lists) + [numbers.rule(lists, 1)] * 4)[numbers.below(len(rules(lists)) + 4)]
            given = (numbers.grid(lists, things, 3), rule, numbers.below(things + 1))
            model, keeper = Model(*given), Keeper(*given)
            for step in range(12):
                self.same(model, keeper)
                put = (numbers.below(lists), numbers.below(things), numbers.grid(1, 1, 3)[0][0])
                wanted = model.put(*put)
                self.assertIs(wanted, self.ask(keeper.put, *put))
                exchanged += wanted
                kept_others += model.kept != model.best()
                if numbers.below(3) == 0:
                    self.assertEqual(model.come(), self.ask(keeper.come))
            self.same(model, keeper)
            self.assertEqual(model.come(), keeper.come())
        self.assertGreater(exchanged, 50)
        self.assertGreater(kept_others, 50)

    def test_rooms_are_how_far_the_kept_things_stay(self):
        numbers = Numbers(102)
        for turn in range(60):
            lists, things = 1 + numbers.below(4), 2 + numbers.below(5)
            rule = (rules(lists) + [numbers.rule(lists, 1)] * 4)[numbers.below(len(rules(lists)) + 4)]
            keeper = Keeper(numbers.grid(lists, things, 3), rule, numbers.below(things + 1))
            for step in range(4):
                keeper.put(numbers.below(lists), numbers.below(things), numbers.grid(1, 1, 3)[0][0])
                place, thing = numbers.below(lists), numbers.below(things)
                self.check_room(keeper, rule, place, thing)

    def check_room(self, keeper, rule, place, thing):
        book, kept = keeper.book(), keeper.things()
        told = self.ask(keeper.room, place, thing)
        low, high = [number(edge) for edge in told]
        self.assertTrue(0 <= low <= number(book[place][thing]) <= high <= 1)
        for worth, stays in ((low, True), (high, True), (low - HAIR, False), (high + HAIR, False)):
            if 0 <= worth <= 1:
                other = [list(row) for row in book]
                other[place][thing] = pair(worth)
                self.assertEqual(stays, is_best_few(other, rule, kept), (book, rule, kept, place, thing, told))
        # Asking changes nothing, and putting an edge keeps the things.
        self.told(told, keeper.room, place, thing)
        for edge in told:
            self.assertIs(False, keeper.put(place, thing, edge))
        keeper.put(place, thing, book[place][thing])
        self.told(kept, keeper.things)
        self.told(book, keeper.book)

    def test_rooms_are_those_of_few_room_where_best_few_has_the_kept_things(self):
        numbers = Numbers(103)
        for turn in range(40):
            lists, things = 1 + numbers.below(4), 1 + numbers.below(12)
            rule, count = numbers.rule(lists, 2), numbers.below(things + 1)
            keeper = Keeper(numbers.book(lists, things, 2), rule, count)
            for place, thing in all_asks(lists, things)[::3]:
                self.told(few_room(keeper.book(), rule, count, place, thing), keeper.room, place, thing)

    def test_nothing_handed_in_or_told_changes_it(self):
        book, weights = [[HALF, THIRD], [THIRD, QUARTER]], [ALL, ALL]
        keeper = Keeper(book, ("shares", weights), 1)
        weights[0] = NONE
        book[0][0] = NONE
        book[1].clear()
        book.clear()
        for told in (keeper.book()[0], keeper.book(), keeper.things(), keeper.few()) + keeper.come():
            told.append("spoilt")
            told.reverse()
        self.told([[HALF, THIRD], [THIRD, QUARTER]], keeper.book)
        self.told([0], keeper.things)
        self.told([(0, (5, 6))], keeper.few)
        self.told((QUARTER, ALL), keeper.room, 0, 0)
        self.assertEqual(([], []), keeper.come())

    def test_what_was_told_stays_through_later_puts(self):
        keeper = Keeper([[HALF, THIRD]], LEAST, 1)
        book, things, few, come = keeper.book(), keeper.things(), keeper.few(), keeper.come()
        keeper.put(0, 1, ALL)
        self.assertEqual(([[HALF, THIRD]], [0], [(0, HALF)], ([], [])), (book, things, few, come))

    def test_two_keepers_have_nothing_in_common(self):
        book, rule = [[HALF, THIRD]], ("shares", [ALL])
        one, other = Keeper(book, rule, 1), Keeper(book, rule, 1)
        one.put(0, 1, ALL)
        self.told([[HALF, THIRD]], other.book)
        self.told([0], other.things)
        self.told(0, other.exchanges)
        self.assertEqual(([], []), other.come())
        self.assertEqual(([1], [0]), one.come())
        self.assertEqual([[HALF, THIRD]], book)

    def test_a_keeper_that_is_made_of_what_another_one_tells(self):
        numbers = Numbers(104)
        keeper = Keeper(numbers.book(4, 12, 12), ("product",), 5)
        for place, thing in all_asks(4, 12)[::7]:
            keeper.put(place, thing, keeper.room(place, thing)[numbers.below(2)])
            other = Keeper(keeper.book(), ("product",), 5)
            self.assertEqual(keeper.few(), other.few())

    def test_the_largest_is_told_soon(self):
        numbers = Numbers(105)
        for rule in rules(4) + [numbers.rule(4, 12)]:
            keeper = self.soon(Keeper, numbers.book(4, 12, 12), rule, 6)
            for place, thing in all_asks(4, 12)[::9]:
                self.soon(keeper.put, place, thing, pair(numbers.worth(12)))
                self.soon(keeper.room, place, thing)

    def test_refusals_of_making(self):
        for thing in no_books():
            self.refused(NoBook, Keeper, thing, LEAST, 0)
        for lists in range(1, 5):
            for thing in no_rules(lists):
                self.refused(NoRule, Keeper, size(lists, 2), thing, 0)
        for things in (1, 2, 12):
            for thing in no_counts(things):
                self.refused(NoCount, Keeper, size(2, things), LEAST, thing)
        for count in (0, True, None, -1, 3):
            for rule in (LEAST, None):
                self.refused(NoBook, Keeper, [[]], rule, count)
            self.refused(NoRule, Keeper, size(2, 2), ("middle", 3), count)

    def test_refusals_of_put_and_room(self):
        for lists, things in ((1, 1), (2, 3), (4, 12)):
            keeper = Keeper(size(lists, things), LEAST, 1)
            for place in NO_NUMBERS + [lists, lists + 1]:
                for thing, worth in product((0, None, True, -1, things), (HALF, None, (2, 1))):
                    self.refused(NoList, keeper.put, place, thing, worth)
                    self.refused(NoList, keeper.room, place, thing)
            for thing in NO_NUMBERS + [things, things + 1]:
                for worth in (HALF, None, (2, 1)):
                    self.refused(NoThing, keeper.put, lists - 1, thing, worth)
                self.refused(NoThing, keeper.room, lists - 1, thing)
            for worth in NO_WORTHS:
                self.refused(NoWorth, keeper.put, lists - 1, things - 1, worth)
            # A refusal changes nothing.
            self.told(size(lists, things), keeper.book)
            self.told([0], keeper.things)
            self.told(0, keeper.exchanges)
            self.assertEqual(([], []), keeper.come())


if __name__ == "__main__":
    unittest.main()
