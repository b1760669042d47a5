"""Papers: the lines that looks at a book showed and the things that are sure by them, and a judge who sees no more."""

from bestheads.books import (
    MOST_LISTS, MOST_THINGS, are_rising, are_things, is_count, is_place, is_worth, read_orders,
)
from bestheads.errors import NoCount, NotSure
from bestheads.fracs import frac_below
from bestheads.looks import FULL, NOTHING, are_sure, bounds_by, sure_few
from bestheads.rules import is_rule


def seen_paper(book, rule, count, looks):
    """The paper of these looks: the read lines, the asked worths, and so many sure things."""
    things = sure_few(book, rule, count, looks)
    if things is None:
        raise NotSure("by these looks no so many things are sure")
    depths, asked = looks
    lines = []
    for row, order, depth in zip(book, read_orders(book), depths):
        lines.append([(thing, row[thing]) for thing in order[:depth]])
    return (lines, [(place, thing, book[place][thing]) for place, thing in asked], things)


def is_line(thing, many):
    """Whether anything is a tuple of one of so many things and a worth."""
    if not isinstance(thing, tuple) or len(thing) != 2:
        return False
    return is_place(thing[0], many) and is_worth(thing[1])


def is_ahead(one, other):
    """Whether the first of two lines is read ahead of the second."""
    if one[1] == other[1]:
        return one[0] < other[0]
    return frac_below(other[1], one[1])


def may_follow(read, line):
    """Whether a line can lie somewhere behind the read ones of a list."""
    return not read or is_ahead(read[-1], line)


def things_of(read):
    """The things of read lines."""
    return [thing for thing, worth in read]


def are_read(thing, many):
    """Whether anything is a list of lines with which some list of so many things begins."""
    if not isinstance(thing, list) or not all([is_line(part, many) for part in thing]):
        return False
    read = things_of(thing)
    if len(set(read)) < len(read) or not all([is_ahead(one, other) for one, other in zip(thing, thing[1:])]):
        return False
    # What isn't read is worth something, and if it can be worth anything, then nothing.
    return all([own in read or may_follow(thing, (own, NOTHING)) for own in range(many)])


def is_answer(thing, lines, many):
    """Whether anything is a tuple of a list, a thing and a worth that the read lines let it have."""
    if not isinstance(thing, tuple) or len(thing) != 3:
        return False
    if not is_place(thing[0], len(lines)) or not is_line(thing[1:], many):
        return False
    read, line = lines[thing[0]], thing[1:]
    return line in read if line[0] in things_of(read) else may_follow(read, line)


def are_answers(thing, lines, many):
    """Whether anything is a list of answers, their lists and things unlike and rising."""
    if not isinstance(thing, list) or not all([is_answer(part, lines, many) for part in thing]):
        return False
    return are_rising([part[:2] for part in thing])


def is_paper(thing, many):
    """Whether anything is a paper for so many things and as many lists as its lines have."""
    if not isinstance(thing, tuple) or len(thing) != 3:
        return False
    lines, asked, things = thing
    if not isinstance(lines, list) or not 1 <= len(lines) <= MOST_LISTS:
        return False
    if not all([are_read(read, many) for read in lines]):
        return False
    return are_answers(asked, lines, many) and are_things(things, many)


def shown_worths(lines, asked, many):
    """For each list the worths that the lines and what is asked show, None for each other one."""
    shown = [[None] * many for read in lines]
    for place, read in enumerate(lines):
        for thing, worth in read:
            shown[place][thing] = worth
    for place, thing, worth in asked:
        shown[place][thing] = worth
    return shown


def judge_paper(many, rule, count, paper):
    """Whether a paper for so many things shows by the rule that its things, so many as count, are a best few."""
    if not is_count(many, MOST_THINGS) or many == 0:
        raise NoCount("a paper is for one to twelve things")
    if not is_count(count, many):
        raise NoCount("this is no count of the things")
    if not is_paper(paper, many) or not is_rule(rule, len(paper[0])):
        return False
    lines, asked, things = paper
    lasts = [read[-1][1] if read else FULL for read in lines]
    return len(things) == count and are_sure(bounds_by(rule, shown_worths(lines, asked, many), lasts), things)
