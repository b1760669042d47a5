"""Rooms: how far a worth can move while some things stay a best few."""

from bestheads.best import best_things, need_book_rule_and_count, worths_by, worths_of
from bestheads.books import need_list, need_thing
from bestheads.fracs import falling_places, frac_below, frac_by, frac_less
from bestheads.looks import FULL, NOTHING
from bestheads.rules import worth_by


def worth_with(book, rule, place, thing, worth):
    """What a thing is worth by the rule when it has another worth in a list."""
    worths = worths_of(book, thing)
    worths[place] = worth
    return worth_by(rule, worths)


def worth_for(rule, least, most, goal):
    """The worth in a list that makes a thing worth the goal, which lies between what 0 and what 1 make of it."""
    if rule[0] == "shares" or rule[0] == "product":
        return frac_by(frac_less(goal, least), frac_less(most, least))
    # All other rules tell one of the worths, so between the least and the most it is this very one.
    return goal


def room_by(book, rule, things, place, thing):
    """The least and the greatest worth of a thing in a list with which things that are a best few stay so."""
    worths = worths_by(book, rule)
    rivals = [worths[other] for other in range(len(worths)) if (other in things) != (thing in things)]
    if not rivals:
        return (NOTHING, FULL)
    order = falling_places(rivals)
    least = worth_with(book, rule, place, thing, NOTHING)
    most = worth_with(book, rule, place, thing, FULL)
    if thing in things:
        goal = rivals[order[0]]
        return (worth_for(rule, least, most, goal) if frac_below(least, goal) else NOTHING, FULL)
    goal = rivals[order[-1]]
    return (NOTHING, worth_for(rule, least, most, goal) if frac_below(goal, most) else FULL)


def few_room(book, rule, count, place, thing):
    """The least and the greatest worth of a thing in a list with which the things of best_few stay a best few."""
    need_book_rule_and_count(book, rule, count)
    need_list(book, place)
    need_thing(book, thing)
    return room_by(book, rule, best_things(book, rule, count), place, thing)
