"""Books: one to four lists of the worths of one to twelve things, and the order in which a list is read."""

from bestheads.errors import NoBook, NoList, NoThing
from bestheads.fracs import falling_places, is_fraction, is_whole

MOST_LISTS = 4
MOST_THINGS = 12


def is_worth(thing):
    """Whether anything is a fraction from 0 to 1."""
    return is_fraction(thing) and 0 <= thing[0] <= thing[1]


def are_worths(thing, most):
    """Whether anything is a list of one to so many worths."""
    if not isinstance(thing, list) or not 1 <= len(thing) <= most:
        return False
    return all([is_worth(part) for part in thing])


def is_book(thing):
    """Whether anything is a book."""
    if not isinstance(thing, list) or not 1 <= len(thing) <= MOST_LISTS:
        return False
    if not all([are_worths(row, MOST_THINGS) for row in thing]):
        return False
    return all([len(row) == len(thing[0]) for row in thing])


def is_place(thing, many):
    """Whether anything is a number of one of so many lists or things, which are numbered from 0."""
    return is_whole(thing) and 0 <= thing < many


def is_count(thing, many):
    """Whether anything is a count of some, none or all of so many things."""
    return is_whole(thing) and 0 <= thing <= many


def are_rising(parts):
    """Whether each of these parts is less than the next one."""
    return all([one < other for one, other in zip(parts, parts[1:])])


def are_things(thing, many):
    """Whether anything is a rising list of unlike ones of so many things."""
    if not isinstance(thing, list) or not all([is_place(part, many) for part in thing]):
        return False
    return are_rising(thing)


def need_book(book):
    """Refuse what is no book."""
    if not is_book(book):
        raise NoBook("this is no book")


def need_list(book, place):
    """Refuse what is no number of a list of the book."""
    if not is_place(place, len(book)):
        raise NoList("the book has no list of this number")


def need_thing(book, thing):
    """Refuse what is no number of a thing of the book."""
    if not is_place(thing, len(book[0])):
        raise NoThing("the book has no thing of this number")


def read_orders(book):
    """For each list all things in the order in which it is read."""
    return [falling_places(row) for row in book]


def read_order(book, place):
    """All things in the order in which the list of this number is read."""
    need_book(book)
    need_list(book, place)
    return falling_places(book[place])
