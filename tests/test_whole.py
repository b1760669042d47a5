"""What the document promises over several of its points."""

import importlib
import inspect
import unittest

from helper import Case, Numbers, all_asks, is_best_few, rules

from bestheads.beaten import book_layers, unbeaten
from bestheads.best import best_few
from bestheads.desk import Desk
from bestheads.judging import judge_paper, seen_paper
from bestheads.keeper import Keeper
from bestheads.looks import count_of, sure_few, worth_bounds
from bestheads.near import near_few
from bestheads.others import other_book
from bestheads.rooms import few_room
from bestheads.texts import read_book, read_rule, shown_book, shown_rule
from bestheads.ways import by_asking, by_hope, by_rounds, least_reading
from bestheads.weights import weight_stretches

# The interface calls an argument list; here it is called place, as the language keeps that name for itself.
INTERFACE = {
    "fracs": {"fraction_of": "top bottom", "frac_sum": "one other", "frac_less": "one other", "frac_times": "one other",
              "frac_by": "one other", "frac_below": "one other", "is_fraction": "thing"},
    "books": {"is_book": "thing", "read_order": "book place"},
    "rules": {"is_rule": "thing many", "rule_worth": "rule worths"},
    "best": {"thing_worths": "book rule", "best_few": "book rule count"},
    "looks": {"seen_worths": "book looks", "count_of": "book looks", "worth_bounds": "book rule looks",
              "sure_few": "book rule count looks"},
    "others": {"other_book": "book rule things looks"},
    "ways": {"by_rounds": "book rule count", "by_asking": "book rule count", "by_hope": "book rule count",
             "least_reading": "book rule count"},
    "judging": {"seen_paper": "book rule count looks", "judge_paper": "many rule count paper"},
    "near": {"near_few": "book rule count looks slack"},
    "beaten": {"unbeaten": "book", "book_layers": "book"},
    "weights": {"weight_stretches": "book count"},
    "rooms": {"few_room": "book rule count place thing"},
    "keeper": {"Keeper": "book rule count", "Keeper.put": "self place thing worth", "Keeper.things": "self",
               "Keeper.book": "self", "Keeper.few": "self", "Keeper.exchanges": "self",
               "Keeper.room": "self place thing", "Keeper.come": "self"},
    "texts": {"shown_book": "book", "read_book": "text", "shown_rule": "rule many", "read_rule": "text many"},
    "desk": {"Desk": "", "Desk.tell": "self line"},
}


def cases(seed, turns, lists, things):
    """Books of several sizes with rules of each kind and counts, the like ones among them often."""
    numbers = Numbers(seed)
    for turn in range(turns):
        many, size = 1 + numbers.below(lists), 1 + numbers.below(things)
        book = numbers.grid(many, size, (2, 4, 10 ** 12 - 1)[turn % 3])
        choices = rules(many) + [numbers.rule(many, 2) for again in range(4)]
        yield numbers, book, choices[numbers.below(len(choices))], numbers.below(size + 1)


class Interface(unittest.TestCase):
    def test_names_and_arguments(self):
        for file, names in INTERFACE.items():
            module = importlib.import_module("bestheads." + file)
            for name, arguments in names.items():
                deed = module
                for part in name.split("."):
                    deed = getattr(deed, part)
                self.assertEqual(arguments.split(), list(inspect.signature(deed).parameters), name)


class ReadingOn(Case):
    def deeper(self, numbers, book, looks):
        """Looks that show all that these show, and perhaps more."""
        depths, asked = looks
        more = [min(depth + numbers.below(3), len(book[0])) for depth in depths]
        asks = all_asks(len(book), len(book[0]))
        return (more, [ask for ask in asks if ask in asked or numbers.below(5) == 0])

    def test_reading_on_never_makes_less_sure(self):
        sure = 0
        for numbers, book, rule, count in cases(131, 300, 4, 7):
            looks = numbers.looks(len(book), len(book[0]))
            few = sure_few(book, rule, count, looks)
            for step in range(3):
                looks = self.deeper(numbers, book, looks)
                if few is not None:
                    # The very things stay sure, so some are told.
                    self.assertIsNone(other_book(book, rule, few, looks))
                    self.assertIsNotNone(sure_few(book, rule, count, looks))
                    sure += 0 < count < len(book[0])
        self.assertGreater(sure, 100)

    def test_bounds_draw_together(self):
        for numbers, book, rule, count in cases(132, 60, 4, 7):
            looks = numbers.looks(len(book), len(book[0]))
            old = worth_bounds(book, rule, looks)
            new = worth_bounds(book, rule, self.deeper(numbers, book, looks))
            for (low, high), (less, more) in zip(new, old):
                self.assertLessEqual(less[0] * low[1], low[0] * less[1])
                self.assertLessEqual(high[0] * more[1], more[0] * high[1])

    def test_sure_things_are_a_best_few_and_nearly_sure(self):
        for numbers, book, rule, count in cases(133, 200, 4, 8):
            looks = numbers.looks(len(book), len(book[0]))
            few = sure_few(book, rule, count, looks)
            if few is not None:
                self.assertEqual(count, len(few))
                self.assertTrue(is_best_few(book, rule, few))
                for slack in ((1, 1), (3, 2)):
                    self.assertIsNotNone(near_few(book, rule, count, looks, slack))

    def test_all_that_there_is_makes_sure(self):
        for numbers, book, rule, count in cases(134, 100, 4, 12):
            lists, things = len(book), len(book[0])
            few = sorted(thing for thing, worth in best_few(book, rule, count))
            for looks in (([things] * lists, []), ([0] * lists, all_asks(lists, things))):
                self.assertEqual(few, sure_few(book, rule, count, looks))


class Ways(Case):
    def test_ways_and_papers_fit_together(self):
        for numbers, book, rule, count in cases(135, 150, 4, 8):
            lists, things = len(book), len(book[0])
            rounds, by_round = by_rounds(book, rule, count)
            asking, looks, by_ask = by_asking(book, rule, count)
            hope, hoped = by_hope(book, rule, count)
            ways = [(([rounds] * lists, []), by_round), (looks, by_ask), (hope, hoped)]
            if lists <= 3:
                depths, least = least_reading(book, rule, count)
                ways.append(((depths, []), least))
                for way in (ways[0][0], hope):
                    self.assertLessEqual(sum(depths), count_of(book, way)[0])
            # Asking shows more than reading alone.
            self.assertLessEqual(asking, rounds)
            for looks, few in ways:
                self.assertEqual(few, sure_few(book, rule, count, looks))
                self.assertIsNone(other_book(book, rule, few, looks))
                paper = seen_paper(book, rule, count, looks)
                self.assertEqual(few, paper[2])
                self.assertEqual(count_of(book, looks)[0], sum(len(lines) for lines in paper[0]))
                self.assertIs(True, judge_paper(things, rule, count, paper))

    def test_a_line_less_is_not_enough(self):
        for numbers, book, rule, count in cases(136, 100, 3, 8):
            depths, few = least_reading(book, rule, count)
            for place, depth in enumerate(depths):
                if depth:
                    less = depths[:place] + [depth - 1] + depths[place + 1:]
                    self.assertIsNone(sure_few(book, rule, count, (less, [])))


class RoomsAndKeepers(Case):
    def test_a_new_keepers_rooms_are_those_of_few_room(self):
        for numbers, book, rule, count in cases(137, 100, 4, 8):
            keeper = Keeper(book, rule, count)
            place, thing = numbers.below(len(book)), numbers.below(len(book[0]))
            room = few_room(book, rule, count, place, thing)
            self.assertEqual(room, keeper.room(place, thing))
            # Putting what the room lets exchanges nothing.
            for worth in room:
                self.assertIs(False, keeper.put(place, thing, worth))

    def test_a_desk_tells_what_the_functions_tell(self):
        for numbers, book, rule, count in cases(138, 60, 4, 8):
            desk = Desk()
            for line in shown_book(book).split("\n"):
                desk.tell("list " + line)
            desk.tell("take")
            desk.tell("rule " + shown_rule(rule, len(book)))
            desk.tell(f"count {count}")
            few = [f"{thing}:{shown_book([[worth]])}" for thing, worth in best_few(book, ("least",), count)]
            self.assertEqual("rule", desk.tell("rule least"))
            self.assertEqual(" ".join(few) or "none", desk.tell("few"))
            self.assertEqual(" ".join(map(str, unbeaten(book))), desk.tell("unbeaten"))
            self.assertEqual([str(len(layer)) for layer in book_layers(book)], desk.tell("layers").split())


class TextsAgain(Case):
    def test_what_is_shown_is_read_back(self):
        for numbers, book, rule, count in cases(139, 100, 4, 12):
            self.told(book, read_book, shown_book(book))
            self.told(rule, read_rule, shown_rule(rule, len(book)), len(book))


class Stretches(Case):
    def test_stretches_fit_the_best_few_and_layers(self):
        for numbers, book, rule, count in cases(140, 60, 1, 8):
            book = [book[0], numbers.grid(1, len(book[0]), 3)[0]]
            first = [thing for layer in book_layers(book)[:count] for thing in layer]
            for start, end, things in weight_stretches(book, count):
                self.assertEqual(count, len(things))
                # Within a stretch both weights are above 0.
                self.assertTrue(set(things) <= set(first))


if __name__ == "__main__":
    unittest.main()
