import unittest
from fractions import Fraction

from helper import Case, Numbers, ODD_THINGS, pair

from bestheads.errors import NoBottom
from bestheads.fracs import frac_below, frac_by, frac_less, frac_sum, frac_times, fraction_of, is_fraction

FEW_FIGURES = sorted({Fraction(top, bottom) for top in range(-4, 5) for bottom in range(1, 5)})


def many_figures():
    numbers = Numbers(5)
    return [numbers.fraction(12) for turn in range(12)] + [Fraction(10 ** 12 - 1, 10 ** 12 - 2), Fraction(10 ** 12 - 1)]


SAMPLE = FEW_FIGURES + many_figures()
PAIRS = [(one, other) for one in SAMPLE for other in SAMPLE]


class FractionOf(Case):
    def test_small_tops_and_bottoms_of_both_signs(self):
        for top in range(-13, 14):
            for bottom in range(-13, 14):
                if bottom != 0:
                    self.told(pair(Fraction(top, bottom)), fraction_of, top, bottom)

    def test_written_out(self):
        self.told((1, 2), fraction_of, 3, 6)
        self.told((-1, 2), fraction_of, 3, -6)
        self.told((-1, 2), fraction_of, -3, 6)
        self.told((1, 2), fraction_of, -3, -6)
        self.told((5, 1), fraction_of, 5, 1)
        self.told((-5, 1), fraction_of, 5, -1)

    def test_nought_is_nought_over_one(self):
        for bottom in (1, -1, 7, -7, 10 ** 59, -(10 ** 59)):
            self.told((0, 1), fraction_of, 0, bottom)

    def test_twelve_and_sixty_figures(self):
        numbers = Numbers(1)
        for figures in (12, 60):
            for turn in range(40):
                top, bottom, shared = numbers.whole(figures), numbers.whole(figures), numbers.whole(figures // 3)
                for one, other in ((top, bottom), (-top, bottom), (top, -bottom), (top * shared, bottom * shared)):
                    self.told(pair(Fraction(one, other)), fraction_of, one, other)

    def test_a_bottom_of_nought_is_refused(self):
        for top in (0, 1, -1, 12, 10 ** 59):
            self.refused(NoBottom, fraction_of, top, 0)


class Reckoning(Case):
    def test_sum(self):
        for one, other in PAIRS:
            self.told(pair(one + other), frac_sum, pair(one), pair(other))

    def test_less(self):
        for one, other in PAIRS:
            self.told(pair(one - other), frac_less, pair(one), pair(other))

    def test_times(self):
        for one, other in PAIRS:
            self.told(pair(one * other), frac_times, pair(one), pair(other))

    def test_by(self):
        for one, other in PAIRS:
            if other != 0:
                self.told(pair(one / other), frac_by, pair(one), pair(other))

    def test_by_nought_is_refused(self):
        for one in SAMPLE:
            self.refused(NoBottom, frac_by, pair(one), (0, 1))

    def test_below(self):
        for one, other in PAIRS:
            self.told(one < other, frac_below, pair(one), pair(other))

    def test_neighbours_that_differ_in_the_last_figure_alone(self):
        one, other = Fraction(10 ** 12 - 2, 10 ** 12 - 1), Fraction(10 ** 12 - 3, 10 ** 12 - 2)
        self.told(True, frac_below, pair(other), pair(one))
        self.told(False, frac_below, pair(one), pair(other))

    def test_a_fraction_with_itself(self):
        for one in SAMPLE:
            self.told(pair(2 * one), frac_sum, pair(one), pair(one))
            self.told((0, 1), frac_less, pair(one), pair(one))
            self.told(pair(one * one), frac_times, pair(one), pair(one))
            self.told(False, frac_below, pair(one), pair(one))
            if one != 0:
                self.told((1, 1), frac_by, pair(one), pair(one))

    def test_written_out(self):
        self.told((5, 6), frac_sum, (1, 2), (1, 3))
        self.told((-1, 6), frac_less, (1, 3), (1, 2))
        self.told((1, 3), frac_times, (1, 2), (2, 3))
        self.told((-3, 2), frac_by, (1, 2), (-1, 3))
        self.told(True, frac_below, (-1, 2), (-1, 3))

    def test_what_was_told_is_handed_in_again(self):
        numbers = Numbers(9)
        total, product = (0, 1), (1, 1)
        wanted_total, wanted_product = Fraction(0), Fraction(1)
        for turn in range(120):
            step = numbers.fraction(12)
            total, wanted_total = frac_sum(total, pair(step)), wanted_total + step
            product, wanted_product = frac_by(product, pair(step)), wanted_product / step
        self.assertEqual(pair(wanted_total), total)
        self.assertEqual(pair(wanted_product), product)
        self.assertIs(True, is_fraction(total))
        self.assertIs(True, is_fraction(product))
        self.assertIs(wanted_total < wanted_product, frac_below(total, product))


class IsFraction(Case):
    def test_fractions(self):
        for one in SAMPLE:
            self.told(True, is_fraction, pair(one))

    def test_small_tops_and_bottoms(self):
        for top in range(-9, 10):
            for bottom in range(-9, 10):
                wanted = bottom >= 1 and Fraction(top, bottom).denominator == bottom
                self.told(wanted, is_fraction, (top, bottom))

    def test_sixty_figures(self):
        self.told(True, is_fraction, (10 ** 59, 10 ** 59 + 1))
        self.told(True, is_fraction, (-(10 ** 59), 1))
        self.told(False, is_fraction, (10 ** 59, 10 ** 59 - 10))
        self.told(False, is_fraction, (10 ** 59 + 1, -(10 ** 59)))

    def test_nought(self):
        self.told(True, is_fraction, (0, 1))
        for bottom in (-1, 0, 2, 10 ** 11):
            self.told(False, is_fraction, (0, bottom))

    def test_anything_else(self):
        for thing in ODD_THINGS:
            self.told(False, is_fraction, thing)

    def test_anything_as_top_or_bottom(self):
        for thing in ODD_THINGS:
            if type(thing) is not int:
                self.told(False, is_fraction, (thing, 1))
                self.told(False, is_fraction, (1, thing))

    def test_another_length_or_a_list(self):
        for thing in ((1,), (1, 2, 1), (1, 2, None), [1, 2], [0, 1]):
            self.told(False, is_fraction, thing)


if __name__ == "__main__":
    unittest.main()
