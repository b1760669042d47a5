"""Exact fractions: tuples of a top and a bottom of 1 or more, without a common divisor above 1."""

from bestheads.errors import NoBottom


def is_whole(thing):
    """Whether anything is a whole number."""
    # Python counts True and False as whole numbers.
    return isinstance(thing, int) and not isinstance(thing, bool)


def common_divisor(one, other):
    """The greatest common divisor of two whole numbers."""
    while other != 0:
        one, other = other, one % other
    return abs(one)


def fraction_of(top, bottom):
    """The fraction of any top and any bottom but 0."""
    if bottom == 0:
        raise NoBottom("a fraction has no bottom of 0")
    divisor = common_divisor(top, bottom)
    if bottom < 0:
        # The sign goes to the top.
        divisor = -divisor
    return (top // divisor, bottom // divisor)


def frac_sum(one, other):
    """The sum of two fractions."""
    return fraction_of(one[0] * other[1] + other[0] * one[1], one[1] * other[1])


def frac_less(one, other):
    """The first fraction less the second."""
    return fraction_of(one[0] * other[1] - other[0] * one[1], one[1] * other[1])


def frac_times(one, other):
    """The product of two fractions."""
    return fraction_of(one[0] * other[0], one[1] * other[1])


def frac_by(one, other):
    """The first fraction by the second, which isn't 0."""
    # A second one of 0 makes a bottom of 0, which fraction_of refuses.
    return fraction_of(one[0] * other[1], one[1] * other[0])


def frac_below(one, other):
    """Whether the first fraction is less than the second."""
    return one[0] * other[1] < other[0] * one[1]


def is_fraction(thing):
    """Whether anything is a fraction."""
    if not isinstance(thing, tuple) or len(thing) != 2:
        return False
    top, bottom = thing
    if not is_whole(top) or not is_whole(bottom):
        return False
    return bottom >= 1 and common_divisor(top, bottom) == 1


def common_bottom(fractions):
    """The least whole number that all bottoms divide."""
    bottom = 1
    for top, own in fractions:
        bottom = bottom * own // common_divisor(bottom, own)
    return bottom


def tops_on_one_bottom(fractions):
    """The tops of fractions that are brought to one bottom: whole numbers that compare as the fractions do."""
    bottom = common_bottom(fractions)
    return [top * (bottom // own) for top, own in fractions]


def falling_places(fractions):
    """The places of fractions in a list, greater fractions first, of like ones the lesser place first."""
    tops = tops_on_one_bottom(fractions)
    # sorted leaves like ones in the order of their places.
    return sorted(range(len(tops)), key=lambda place: -tops[place])
