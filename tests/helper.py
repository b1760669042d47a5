"""What the tests share: asking with a watch on what is handed in, odd things, and repeatable numbers."""

import unittest
from fractions import Fraction

from bestheads.errors import HeadError

# None of these is a fraction, a worth, a book, a rule or a list of worths.
ODD_THINGS = [
    None, True, False, 0, 1, -1, 2, 10 ** 59, -(10 ** 59),
    "", "a", "0", "1", "1/2", "least", "shares", "(1, 2)", "\n", " ~",
    (), [], ((),), [[]], ([],), [()], (None,), [None], (True,), [False], (0,), [0], ("a",), ["least"],
    (1, 2, 3), [1, 2], [0, 1], [1, 1], [(1, 2), (1, 2, 3)], [[1, 2]], [[[1, 2]]], (((1, 2),),),
    (True, 1), (False, 1), (1, True), (True, True), (0, False), (None, 1), (1, None), ("1", 2), (1, "2"),
    ((1, 2), 1), (1, (1, 2)), ([1], 2), (1, [2]), ("least", "least"), (["least"],), (("least",),),
]


def nested(thing, depth, wrap):
    for round_ in range(depth):
        thing = wrap(thing)
    return thing


ODD_THINGS += [nested((1, 2), 19, lambda thing: [thing]), nested("a", 19, lambda thing: (thing,))]


class Case(unittest.TestCase):
    """A test case that sees whether what is handed in stays as it was."""

    def ask(self, deed, *given):
        # repr tells 1 from True and a tuple from a list.
        before = repr(given)
        try:
            return deed(*given)
        finally:
            self.assertEqual(before, repr(given))

    def told(self, wanted, deed, *given):
        """What is told is this very value, of these very kinds."""
        self.assertEqual(repr(wanted), repr(self.ask(deed, *given)), given)

    def refused(self, refusal, deed, *given):
        try:
            answer = self.ask(deed, *given)
        except HeadError as e:
            self.assertIs(refusal, type(e), given)
        else:
            self.fail(f"{given} is not refused but answered with {answer}")


def pair(number):
    """The fraction tuple of one of Python's own Fractions, by which the program is checked."""
    return (number.numerator, number.denominator)


class Numbers:
    """Numbers that look like chance and are the same in every run."""

    def __init__(self, seed):
        self.state = seed

    def below(self, limit):
        self.state = (self.state * 6364136223846793005 + 1442695040888963407) % 2 ** 64
        return (self.state >> 16) % limit

    def whole(self, figures):
        """A whole number of just so many figures."""
        text = str(1 + self.below(9))
        while len(text) < figures:
            text += str(self.below(10))
        return int(text)

    def fraction(self, figures):
        sign = self.below(2) * 2 - 1
        return Fraction(sign * self.whole(figures), self.whole(figures))

    def worth(self, figures):
        bottom = self.whole(figures)
        return Fraction(self.below(bottom + 1), bottom)

    def book(self, lists, things, figures):
        return [[pair(self.worth(figures)) for thing in range(things)] for row in range(lists)]
