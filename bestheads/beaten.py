"""Which things no other thing beats, and the layers behind them."""

from bestheads.books import need_book
from bestheads.fracs import frac_below


def beats(book, one, other):
    """Whether one thing is worth no less than another in each list, and more in one."""
    if any([frac_below(row[one], row[other]) for row in book]):
        return False
    return any([frac_below(row[other], row[one]) for row in book])


def unbeaten_of(book, things):
    """Those of the things that none of them beats."""
    return [thing for thing in things if not any([beats(book, other, thing) for other in things])]


def unbeaten(book):
    """The rising list of the things that none beats."""
    need_book(book)
    return unbeaten_of(book, list(range(len(book[0]))))


def book_layers(book):
    """The unbeaten things, then those that are unbeaten among the rest, and so on."""
    need_book(book)
    layers = []
    rest = list(range(len(book[0])))
    while rest:
        layer = unbeaten_of(book, rest)
        layers.append(layer)
        rest = [thing for thing in rest if thing not in layer]
    return layers
