"""Two lists: at which weights the best few change."""

from bestheads.best import best_things, need_count
from bestheads.books import need_book
from bestheads.errors import TooMany
from bestheads.fracs import falling_places, frac_below, frac_by, frac_less, frac_sum, frac_times

START = (0, 1)
END = (1, 1)
HALF = (1, 2)


def meeting_weight(book, one, other):
    """The weight of the first list at which two things are worth alike, None where there is no single one."""
    first = frac_less(book[0][one], book[0][other])
    second = frac_less(book[1][other], book[1][one])
    total = frac_sum(first, second)
    # Weight times first is 1 less weight times second.
    return None if total == START else frac_by(second, total)


def meeting_weights(book):
    """All weights between 0 and 1 at which two things are worth alike and else aren't, rising."""
    found = set()
    for one in range(len(book[0])):
        for other in range(one):
            weight = meeting_weight(book, one, other)
            if weight is not None and frac_below(START, weight) and frac_below(weight, END):
                found.add(weight)
    weights = sorted(found)
    return [weights[place] for place in falling_places(weights)][::-1]


def weight_stretches(book, count):
    """The stretches of weights of the first list, from 0 to 1, with the things that are best within each."""
    need_book(book)
    need_count(book, count)
    if len(book) != 2:
        raise TooMany("stretches are told for a book of two lists")
    edges = [START] + meeting_weights(book) + [END]
    stretches = []
    for start, end in zip(edges, edges[1:]):
        weight = frac_times(HALF, frac_sum(start, end))
        things = best_things(book, ("shares", [weight, frac_less(END, weight)]), count)
        if stretches and stretches[-1][2] == things:
            # Things that are best on both sides are best where these meet, too.
            start = stretches.pop()[0]
        stretches.append((start, end, things))
    return stretches
