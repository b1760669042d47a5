"""What the tests share: asking with a watch on what is handed in, odd things, and repeatable numbers."""

import time
import unittest
from fractions import Fraction
from itertools import combinations

from bestheads.errors import HeadError

HALF = (1, 2)

# None of these is a fraction, a worth, a book, a rule or a list of worths.
ODD_THINGS = [
    None, True, False, 0, 1, -1, 2, 10 ** 59, -(10 ** 59),
    "", "a", "0", "1", "1/2", "least", "shares", "(1, 2)", "\n", " ~",
    (), [], ((),), [[]], ([],), [()], (None,), [None], (True,), [False], (0,), [0], ("a",), ["least"],
    (1, 2, 3), [1, 2], [0, 1], [1, 1], [(1, 2), (1, 2, 3)], [[1, 2]], [[[1, 2]]], (((1, 2),),),
    (True, 1), (False, 1), (1, True), (True, True), (0, False), (None, 1), (1, None), ("1", 2), (1, "2"),
    ((1, 2), 1), (1, (1, 2)), ([1], 2), (1, [2]), ("least", "least"), (["least"],), (("least",),),
]


def nested(thing, depth, wrap):
    for round_ in range(depth):
        thing = wrap(thing)
    return thing


ODD_THINGS += [nested((1, 2), 19, lambda thing: [thing]), nested("a", 19, lambda thing: (thing,))]


def lists_within(thing):
    """All lists in a thing, itself too, as often as they stand there."""
    found = [thing] if isinstance(thing, list) else []
    if isinstance(thing, (list, tuple)):
        for part in thing:
            found += lists_within(part)
    return found


class Case(unittest.TestCase):
    """A test case that sees whether what is handed in stays as it was, and whether what is told is the asker's own."""

    def ask(self, deed, *given):
        # repr tells 1 from True and a tuple from a list.
        before = repr(given)
        try:
            answer = deed(*given)
        finally:
            self.assertEqual(before, repr(given))
        # Each told list is another one than those handed in, and than the others told.
        names = [id(part) for part in lists_within(answer)]
        self.assertEqual(len(names), len(set(names)), given)
        self.assertFalse(set(names) & {id(part) for part in lists_within(given)}, given)
        return answer

    def told(self, wanted, deed, *given):
        """What is told is this very value, of these very kinds, also when what was told first is spoilt."""
        first = self.ask(deed, *given)
        self.assertEqual(repr(wanted), repr(first), given)
        parts = lists_within(first)
        for part in parts:
            part[:] = ["spoilt"]
        if parts:
            self.assertEqual(repr(wanted), repr(self.ask(deed, *given)), given)

    def refused(self, refusal, deed, *given):
        try:
            answer = self.ask(deed, *given)
        except HeadError as e:
            self.assertIs(refusal, type(e), given)
        else:
            self.fail(f"{given} is not refused but answered with {answer}")

    def soon(self, deed, *given):
        """What is told, within a time that leaves room for slow machines but not for trying out everything."""
        start = time.process_time()
        answer = self.ask(deed, *given)
        self.assertLess(time.process_time() - start, 5, given)
        return answer


def pair(number):
    """The fraction tuple of one of Python's own Fractions, by which the program is checked."""
    return (number.numerator, number.denominator)


class Numbers:
    """Numbers that look like chance and are the same in every run."""

    def __init__(self, seed):
        self.state = seed

    def below(self, limit):
        self.state = (self.state * 6364136223846793005 + 1442695040888963407) % 2 ** 64
        return (self.state >> 16) % limit

    def whole(self, figures):
        """A whole number of just so many figures."""
        text = str(1 + self.below(9))
        while len(text) < figures:
            text += str(self.below(10))
        return int(text)

    def fraction(self, figures):
        sign = self.below(2) * 2 - 1
        return Fraction(sign * self.whole(figures), self.whole(figures))

    def worth(self, figures):
        bottom = self.whole(figures)
        return Fraction(self.below(bottom + 1), bottom)

    def book(self, lists, things, figures):
        return [[pair(self.worth(figures)) for thing in range(things)] for row in range(lists)]

    def grid(self, lists, things, parts):
        """A book whose worths are some of so many like parts of 1, so that some are often alike."""
        return [[pair(Fraction(self.below(parts + 1), parts)) for thing in range(things)] for row in range(lists)]

    def looks(self, lists, things):
        """Looks at a book of such a size, at times shallow ones, at times with much asked."""
        most, rare = self.below(things + 1), 1 + self.below(8)
        depths = [self.below(most + 1) for row in range(lists)]
        return (depths, [ask for ask in all_asks(lists, things) if self.below(rare + 1) == rare])

    def rule(self, lists, figures):
        """One of the rules for so many lists, shares as often as all others."""
        if self.below(2):
            return ("shares", [pair(abs(self.fraction(figures)) * self.below(4)) for row in range(lists)])
        others = BARE + middles(lists)
        return others[self.below(len(others))]


NO_FRACTIONS = ODD_THINGS + [(2, 4), (0, 2), (1, -2), (1, 0)]
NO_WEIGHTS = NO_FRACTIONS + [(-1, 2), (-1, 1)]
NO_WORTHS = NO_WEIGHTS + [(3, 2), (2, 1), (10 ** 12, 10 ** 12 - 1)]
NO_NUMBERS = [None, True, False, -1, -2, 10 ** 59, "", "0", (), (0,), [], [0], (0, 1), [[0]]]
BARE = [("least",), ("greatest",), ("product",)]


def size(lists, things):
    return [[HALF] * things for row in range(lists)]


def no_books():
    books = list(ODD_THINGS)
    books += [size(0, 1), size(5, 1), size(5, 12), size(1, 0), size(4, 0), size(1, 13), size(4, 13)]
    books += [[[HALF], [HALF, HALF]], [[HALF, HALF], [HALF]], [[HALF] * 3] * 3 + [[HALF] * 4], [[HALF], []]]
    books += [tuple(size(2, 2)), [tuple(row) for row in size(2, 2)], [[HALF], (HALF,)], [HALF], HALF]
    for worth in NO_WORTHS:
        books += [[[worth]], [[HALF, HALF], [HALF, worth]], [[worth, HALF], [HALF, HALF]]]
    for row in ODD_THINGS:
        books += [[row], [[HALF], row], [row, [HALF]]]
    return books


def middles(many):
    return [("middle", place) for place in range(1, many + 1)]


def shares(many):
    weights = [(0, 1), (1, 3), (1, 1), (7, 2), (999999999999, 1), (1, 999999999999)]
    return [("shares", [weights[(start + at) % len(weights)] for at in range(many)]) for start in range(len(weights))]


def rules(many):
    return BARE + middles(many) + shares(many) + [("shares", [(0, 1)] * many)]


def no_rules(many):
    """Things that are no rule for so many lists."""
    things = list(ODD_THINGS)
    things += [list(rule) for rule in rules(many)] + [rule + (None,) for rule in rules(many)]
    things += [rule + (1, 1) for rule in rules(many)] + [rule * 3 for rule in rules(many)]
    things += [rule[0] for rule in rules(many)] + [(rule,) for rule in rules(many)]
    things += [("shares",), ("middle",), ("least", 1), ("greatest", []), ("product", [HALF] * many), ("Least",)]
    things += [("", 1), ("middle ", 1), ("share", [HALF] * many), ("sum",), (None, 1), (1, 1), (["middle"], 1)]
    things += [("middle", place) for place in (0, -1, many + 1, many + 2, 10 ** 59)]
    things += [("middle", place) for place in ODD_THINGS if type(place) is not int]
    things += [("middle", (1, 1)), ("middle", [1]), ("middle", 1, 1), (1, "middle")]
    things += [("shares", [HALF] * (many - 1)), ("shares", [HALF] * (many + 1)), ("shares", (HALF,) * many)]
    things += [("shares", weights) for weights in ODD_THINGS]
    for weight in NO_WEIGHTS:
        things += [("shares", [weight] + [HALF] * (many - 1)), ("shares", [HALF] * (many - 1) + [weight])]
    return things


def no_counts(many):
    """Things that are no count of so many things."""
    return [thing for thing in ODD_THINGS if type(thing) is not int] + [-1, -many, many + 1, many + 2, 10 ** 59]


def all_asks(lists, things):
    return [(row, thing) for row in range(lists) for thing in range(things)]


def no_looks(lists, things):
    """Things that are no looks of a book of such a size."""
    depths, most = [0] * lists, [things] * lists
    found = list(ODD_THINGS) + [depths, (depths,), (depths, [], []), [depths, []], ([], depths), (0, [])]
    found += [(tuple(depths), []), (depths, ()), (depths, [[0, 0]]), (depths, [(0,)]), (depths, [(0, 0, 0)])]
    found += [(depths + [0], []), (depths[1:], []), ([], []), (None, []), (depths, None), (depths, [None])]
    for depth in (-1, things + 1, 10 ** 59, True, False, None, "0", (0, 1), [0]):
        found += [([depth] + depths[1:], []), (most[1:] + [depth], [])]
    for row in (-1, lists, 10 ** 59, True, False, None, "0", (0,), [0]):
        found += [(depths, [(row, 0)]), (most, [(0, 0), (row, 0)])]
    for thing in (-1, things, 10 ** 59, True, False, None, "0", (0,), [0]):
        found += [(depths, [(0, thing)]), (most, [(0, 0), (lists - 1, thing)])]
    # Alike, and not rising.
    found += [(depths, [(0, 0), (0, 0)]), (depths, all_asks(lists, things) + [(lists - 1, things - 1)])]
    if lists > 1:
        found += [(depths, [(1, 0), (0, 0)]), (depths, [(0, 0), (1, 0), (0, 0)])]
    if things > 1:
        found += [(depths, [(0, 1), (0, 0)]), (depths, all_asks(lists, things)[::-1])]
    for part in ODD_THINGS:
        found += [(depths, [part])]
        if part != []:
            found += [(depths, part)]
    return found


def no_thing_lists(many):
    """Things that are no rising list of unlike ones of so many things."""
    found = list(ODD_THINGS) + [[many], [-1], [many - 1, many], [0, 0], [many - 1, many - 1], [0, True], [0, None]]
    found += [list(range(many)) + [many], list(range(many)) + [many - 1], list(range(many)) * 2, list(range(-1, many))]
    found += [tuple(range(many)), [True], ["0"], [(0,)], [[0]], [10 ** 59]]
    found += [[1, 0], list(range(many))[::-1], [False, 1], [0, 1, 1], [0, 1, 0]]
    return [thing for thing in found if not is_rising_list(thing, many)]


def is_rising_list(thing, many):
    if type(thing) is not list or any(type(part) is not int for part in thing):
        return False
    return set(thing) <= set(range(many)) and thing == sorted(set(thing))


def number(worth):
    return Fraction(*worth)


def wanted_order(row):
    return sorted(range(len(row)), key=lambda thing: (-number(row[thing]), thing))


def wanted_worth(rule, worths):
    """Reckoned by Python's own Fractions."""
    numbers = [number(worth) for worth in worths]
    if rule[0] == "shares":
        return pair(sum([number(weight) * own for weight, own in zip(rule[1], numbers)], Fraction(0)))
    if rule[0] == "least":
        return pair(min(numbers))
    if rule[0] == "greatest":
        return pair(max(numbers))
    if rule[0] == "middle":
        return pair(sorted(numbers, reverse=True)[rule[1] - 1])
    answer = Fraction(1)
    for own in numbers:
        answer *= own
    return pair(answer)


def wanted_worths(book, rule):
    return [wanted_worth(rule, worths) for worths in zip(*book)]


def wanted_few(book, rule, count):
    worths = wanted_worths(book, rule)
    order = sorted(range(len(worths)), key=lambda thing: (-number(worths[thing]), thing))
    return [(thing, worths[thing]) for thing in order[:count]]


def is_best_few(book, rule, things):
    """By the words of the document: no other thing is worth more than one of them."""
    worths = [number(worth) for worth in wanted_worths(book, rule)]
    others = [thing for thing in range(len(worths)) if thing not in things]
    return not any(worths[other] > worths[thing] for other in others for thing in things)


def read_lines(book, depths):
    return [[(thing, row[thing]) for thing in wanted_order(row)[:depth]] for row, depth in zip(book, depths)]


def agrees(other, book, looks):
    """Whether another book agrees with looks at a book."""
    depths, asked = looks
    if [len(row) for row in other] != [len(row) for row in book]:
        return False
    if any(other[row][thing] != book[row][thing] for row, thing in asked):
        return False
    return read_lines(other, depths) == read_lines(book, depths)


def wanted_seen(book, looks):
    depths, asked = looks
    seen = []
    for place, row in enumerate(book):
        read = wanted_order(row)[:depths[place]]
        seen.append([row[thing] if thing in read or (place, thing) in asked else None for thing in range(len(row))])
    return seen


def count_looks(book, looks):
    """How many lines are read, and how many worths are asked that aren't read."""
    orders = [wanted_order(row) for row in book]
    return (sum(looks[0]), len([1 for row, thing in looks[1] if orders[row].index(thing) >= looks[0][row]]))


def wanted_bounds(book, rule, looks):
    seen = wanted_seen(book, looks)
    lasts = [lines[-1][1] if lines else (1, 1) for lines in read_lines(book, looks[0])]
    bounds = []
    for thing in range(len(book[0])):
        low = [row[thing] or (0, 1) for row in seen]
        high = [row[thing] or last for row, last in zip(seen, lasts)]
        bounds.append((wanted_worth(rule, low), wanted_worth(rule, high)))
    return bounds


def sure_lists(bounds, count):
    """All rising lists of so many things where the low of each is no less than the high of each other thing."""
    lows = [number(low) for low, high in bounds]
    highs = [number(high) for low, high in bounds]
    found = []
    for few in combinations(range(len(bounds)), count):
        others = [thing for thing in range(len(bounds)) if thing not in few]
        if all(lows[thing] >= highs[other] for thing in few for other in others):
            found.append(list(few))
    return found


def wanted_sure(book, rule, count, looks):
    bounds = wanted_bounds(book, rule, looks)
    found = sure_lists(bounds, count)
    if not found:
        return None
    ranks = sorted(range(len(bounds)), key=lambda thing: (-number(bounds[thing][0]), -number(bounds[thing][1]), thing))
    return min(found, key=lambda few: sorted(ranks.index(thing) for thing in few))
