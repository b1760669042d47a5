"""Another book that looks the same, in which some things are no best few."""

from bestheads.books import are_things
from bestheads.errors import NoThings
from bestheads.fracs import frac_by, frac_less, frac_times
from bestheads.looks import FULL, NOTHING, are_sure, bounds_by, last_worths, need_looks, seen_by, weakest_and_rival
from bestheads.rules import need_book_and_rule


def shrink_between(low, high, lists):
    """A factor below 1 that leaves high above low when high is multiplied by it once for each list."""
    # The product of so many factors 1 less 1/whole is no less than 1 less lists/whole.
    bound = frac_by(frac_times((lists, 1), high), frac_less(high, low))
    whole = bound[0] // bound[1] + 1
    return (whole - 1, whole)


def raised_book(seen, lasts, rival, shrink):
    """The seen worths, with all others 0 but those of the rival, which are nearly the last read ones."""
    book = []
    for row, last in zip(seen, lasts):
        worths = [NOTHING if worth is None else worth for worth in row]
        if row[rival] is None:
            # The last worth itself isn't open to a thing less than that line's, but all below it is.
            worths[rival] = frac_times(last, shrink)
        book.append(worths)
    return book


def other_book(book, rule, things, looks):
    """None where the things are sure, else a book that agrees with the looks in which they are no best few."""
    need_book_and_rule(book, rule)
    if not are_things(things, len(book[0])):
        raise NoThings("this is no rising list of unlike things")
    need_looks(book, looks)
    seen = seen_by(book, looks)
    lasts = last_worths(book, looks[0], FULL)
    bounds = bounds_by(rule, seen, lasts)
    if are_sure(bounds, things):
        return None
    weakest, rival = weakest_and_rival(bounds, things)
    # By no rule is more lost than the factor once for each list: by the product so much, by the others once.
    shrink = shrink_between(bounds[weakest][0], bounds[rival][1], len(book))
    return raised_book(seen, lasts, rival, shrink)
