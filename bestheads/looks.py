"""Looks at a book: what they show, what each thing can be worth by them, and which things are sure."""

from bestheads.best import need_book_rule_and_count, worths_of
from bestheads.books import are_rising, is_count, is_place, need_book, read_orders
from bestheads.errors import NoLooks
from bestheads.fracs import falling_places, frac_below, tops_on_one_bottom
from bestheads.rules import need_book_and_rule, whole_form, worth_by

NOTHING = (0, 1)
FULL = (1, 1)


def are_depths(thing, lists, many):
    """Whether anything is a list of so many depths in lists of so many things."""
    if not isinstance(thing, list) or len(thing) != lists:
        return False
    return all([is_count(part, many) for part in thing])


def is_ask(thing, lists, many):
    """Whether anything is a tuple of a list and a thing."""
    if not isinstance(thing, tuple) or len(thing) != 2:
        return False
    return is_place(thing[0], lists) and is_place(thing[1], many)


def are_asked(thing, lists, many):
    """Whether anything is a list of unlike and rising tuples of a list and a thing."""
    if not isinstance(thing, list) or not all([is_ask(part, lists, many) for part in thing]):
        return False
    return are_rising(thing)


def need_looks(book, looks):
    """Refuse what is no looks of the book."""
    lists, many = len(book), len(book[0])
    if not isinstance(looks, tuple) or len(looks) != 2:
        raise NoLooks("looks are a tuple of depths and what is asked")
    if not are_depths(looks[0], lists, many) or not are_asked(looks[1], lists, many):
        raise NoLooks("these are no looks of the book")


def seen_by(book, looks):
    """seen_worths of what is known to be a book and its looks."""
    depths, asked = looks
    seen = [[None] * len(row) for row in book]
    for place, order in enumerate(read_orders(book)):
        for thing in order[:depths[place]]:
            seen[place][thing] = book[place][thing]
    for place, thing in asked:
        seen[place][thing] = book[place][thing]
    return seen


def seen_worths(book, looks):
    """For each list the worths that are seen, None for each that isn't."""
    need_book(book)
    need_looks(book, looks)
    return seen_by(book, looks)


def count_of(book, looks):
    """How many lines are read, and how many worths are asked that aren't read."""
    need_book(book)
    need_looks(book, looks)
    depths, asked = looks
    orders = read_orders(book)
    unread = [thing for place, thing in asked if thing not in orders[place][:depths[place]]]
    return (sum(depths), len(unread))


def last_worths(book, depths, one):
    """For each list the worth of its last read line, that of one where none is read."""
    lasts = []
    for row, order, depth in zip(book, read_orders(book), depths):
        lasts.append(row[order[depth - 1]] if depth > 0 else one)
    return lasts


def bounds_by(rule, seen, lasts):
    """What each thing is worth at least and at most by the seen worths and the last worths of the lists."""
    bounds = []
    for thing in range(len(seen[0])):
        worths = worths_of(seen, thing)
        low = [NOTHING if worth is None else worth for worth in worths]
        high = [last if worth is None else worth for worth, last in zip(worths, lasts)]
        bounds.append((worth_by(rule, low), worth_by(rule, high)))
    return bounds


def bounds_of(book, rule, looks, one):
    """worth_bounds of what is known to be in order, of a book whose greatest worth is one."""
    return bounds_by(rule, seen_by(book, looks), last_worths(book, looks[0], one))


def worth_bounds(book, rule, looks):
    """What each thing is worth by the rule at least and at most, by these looks."""
    need_book_and_rule(book, rule)
    need_looks(book, looks)
    return bounds_of(book, rule, looks, FULL)


def weakest_and_rival(bounds, things):
    """The one of the things with the least low and the other thing with the greatest high, None where either lacks."""
    others = [thing for thing in range(len(bounds)) if thing not in things]
    if not things or not others:
        return None
    lows = [bounds[thing][0] for thing in things]
    highs = [bounds[thing][1] for thing in others]
    return (things[falling_places(lows)[-1]], others[falling_places(highs)[0]])


def are_sure(bounds, things):
    """Whether the low of each of the things is no less than the high of each other thing."""
    pair = weakest_and_rival(bounds, things)
    if pair is None:
        return True
    weakest, rival = pair
    return not frac_below(bounds[weakest][0], bounds[rival][1])


def order_of_bounds(bounds):
    """All things, those with a greater low first, of like ones with a greater high, of like ones the lesser thing."""
    lows = tops_on_one_bottom([low for low, high in bounds])
    highs = tops_on_one_bottom([high for low, high in bounds])
    return sorted(range(len(bounds)), key=lambda thing: (-lows[thing], -highs[thing]))


def sure_by(bounds, count):
    """The rising list of so many sure things, None where none are."""
    # Where any so many things are sure, the first ones in this order are: they can differ in things alone whose
    # lows and highs are all the same.
    things = sorted(order_of_bounds(bounds)[:count])
    return things if are_sure(bounds, things) else None


def sure_in(form, count, looks):
    """The rising list of so many sure things of a whole form of a book and a rule, None where none are."""
    book, rule, one = form
    return sure_by(bounds_of(book, rule, looks, one), count)


def sure_few(book, rule, count, looks):
    """The rising list of so many things that are sure by these looks, None where none are."""
    need_book_rule_and_count(book, rule, count)
    need_looks(book, looks)
    return sure_in(whole_form(book, rule), count, looks)
