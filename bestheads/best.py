"""The best few: the things of a book that are worth most by a rule."""

from bestheads.books import is_count
from bestheads.errors import NoCount
from bestheads.fracs import falling_places
from bestheads.rules import need_book_and_rule, worth_by


def need_count(book, count):
    """Refuse what is no count of the book's things."""
    if not is_count(count, len(book[0])):
        raise NoCount("this is no count of the book's things")


def need_book_rule_and_count(book, rule, count):
    """Refuse what is no book, then no rule for its lists, then no count of its things."""
    need_book_and_rule(book, rule)
    need_count(book, count)


def worths_of(book, thing):
    """The worths of a thing in all lists."""
    return [row[thing] for row in book]


def worths_by(book, rule):
    """thing_worths of what is known to be a book and its rule."""
    return [worth_by(rule, worths_of(book, thing)) for thing in range(len(book[0]))]


def thing_worths(book, rule):
    """Each thing's worth by the rule."""
    need_book_and_rule(book, rule)
    return worths_by(book, rule)


def best_few(book, rule, count):
    """So many things that are worth most, with their worths, greater worths first, of like ones the lesser thing."""
    need_book_rule_and_count(book, rule, count)
    worths = worths_by(book, rule)
    return [(thing, worths[thing]) for thing in falling_places(worths)[:count]]


def best_things(book, rule, count):
    """The rising list of the things of best_few."""
    return sorted([thing for thing, worth in best_few(book, rule, count)])
