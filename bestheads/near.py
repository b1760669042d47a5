"""Things that are nearly sure: those whose lows, some slack times, are no less than the highs of all others."""

from bestheads.best import need_book_rule_and_count
from bestheads.errors import NoSlack
from bestheads.fracs import frac_below, frac_times, is_fraction
from bestheads.looks import bounds_of, need_looks, order_of_bounds
from bestheads.rules import whole_form


def few_above(bounds, count, slack, low):
    """So many things with this low or a greater one, slack times which is no less than all others' highs, or None."""
    most = frac_times(slack, low)
    strong = [thing for thing in order_of_bounds(bounds) if not frac_below(bounds[thing][0], low)]
    needed = [thing for thing in range(len(bounds)) if frac_below(most, bounds[thing][1])]
    if not len(needed) <= count <= len(strong) or not all([thing in strong for thing in needed]):
        return None
    free = [thing for thing in strong if thing not in needed]
    return sorted((needed + free)[:count])


def near_by(bounds, count, slack):
    """A rising list of so many nearly sure things, None where there are none."""
    if count == 0:
        return []
    # The least low among the things is the low of one of them, so each thing's low is tried.
    for thing in order_of_bounds(bounds):
        few = few_above(bounds, count, slack, bounds[thing][0])
        if few is not None:
            return few
    return None


def near_few(book, rule, count, looks, slack):
    """A rising list of so many things whose lows, slack times, are no less than all others' highs, or None."""
    need_book_rule_and_count(book, rule, count)
    need_looks(book, looks)
    if not is_fraction(slack) or slack[0] < slack[1]:
        raise NoSlack("this is no fraction of 1 or more")
    # All lows and highs of the whole form are multiplied alike.
    rows, rule, one = whole_form(book, rule)
    return near_by(bounds_of(rows, rule, looks, one), count, slack)
