"""Ways to look at a book until some things are sure, and the fewest lines that make sure."""

from bestheads.best import need_book_rule_and_count
from bestheads.books import read_orders
from bestheads.errors import TooMany
from bestheads.fracs import falling_places
from bestheads.looks import last_worths, sure_in
from bestheads.rules import whole_form

MOST_LISTS_READ = 3
MOST_THINGS_READ = 8


def first_sure(form, count, choices):
    """The place of the first of several looks by which some things are sure, the last of which show all, and these."""
    at = 0
    things = sure_in(form, count, choices[at])
    while things is None:
        at += 1
        things = sure_in(form, count, choices[at])
    return (at, things)


def by_rounds(book, rule, count):
    """The least number of lines of each list with which some things are sure, and these."""
    need_book_rule_and_count(book, rule, count)
    choices = [([rounds] * len(book), []) for rounds in range(len(book[0]) + 1)]
    return first_sure(whole_form(book, rule), count, choices)


def asked_behind(orders, depth):
    """All lists and things of lines read so deep, where the thing isn't read so deep in this list."""
    read = sorted({thing for order in orders for thing in order[:depth]})
    return [(place, thing) for place, order in enumerate(orders) for thing in read if thing not in order[:depth]]


def by_asking(book, rule, count):
    """The least number of rounds, with asking behind each, with which some things are sure, the looks, and these."""
    need_book_rule_and_count(book, rule, count)
    form = whole_form(book, rule)
    orders = read_orders(book)
    rounds = 0
    asked = []
    things = sure_in(form, count, ([rounds] * len(book), asked))
    while things is None:
        rounds += 1
        asked = sorted(set(asked + asked_behind(orders, rounds)))
        things = sure_in(form, count, ([rounds] * len(book), asked))
    return (rounds, ([rounds] * len(book), asked), things)


def most_hopeful(lasts, depths, many):
    """The first list with the greatest last read worth among those that aren't read to their end."""
    unended = [place for place in falling_places(lasts) if depths[place] < many]
    return unended[0]


def by_hope(book, rule, count):
    """The looks of reading on where the last read worth is the greatest, until some things are sure, and these."""
    need_book_rule_and_count(book, rule, count)
    form = whole_form(book, rule)
    depths = [0] * len(book)
    things = sure_in(form, count, (depths, []))
    while things is None:
        lasts = last_worths(form[0], depths, form[2])
        depths[most_hopeful(lasts, depths, len(book[0]))] += 1
        things = sure_in(form, count, (depths, []))
    return ((depths, []), things)


def all_depths(lists, many):
    """All depths of so many lists of so many things, those of a lesser sum first, of these the lesser list."""
    rows = [[]]
    for place in range(lists):
        rows = [row + [depth] for row in rows for depth in range(many + 1)]
    # The rows rise as they were made, and sorted leaves those of a like sum so.
    return sorted(rows, key=sum)


def least_reading(book, rule, count):
    """The depths of the least sum, of these the least list, with which some things are sure, and these."""
    need_book_rule_and_count(book, rule, count)
    if len(book) > MOST_LISTS_READ or len(book[0]) > MOST_THINGS_READ:
        raise TooMany("the least reading is told for at most three lists of eight things")
    depths = all_depths(len(book), len(book[0]))
    at, things = first_sure(whole_form(book, rule), count, [(row, []) for row in depths])
    return (depths[at], things)
