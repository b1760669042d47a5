"""A desk that takes lines and answers each with a line."""

from bestheads.beaten import book_layers, unbeaten
from bestheads.best import best_few, need_count
from bestheads.books import MOST_LISTS, is_place, is_worth, need_book, read_order
from bestheads.errors import NoLine, NoRule
from bestheads.looks import count_of, sure_few, worth_bounds
from bestheads.rooms import few_room
from bestheads.rules import is_rule
from bestheads.texts import fraction_from, fractions_from, rule_from, shown_fraction, shown_fractions, whole_from
from bestheads.ways import by_asking, by_hope, by_rounds, least_reading

FRACTION_FIGURES = 12
NUMBER_FIGURES = 60


def in_a_line(parts):
    """Numbers or words with a blank between, none where there are none."""
    return " ".join([str(part) for part in parts]) if parts else "none"


def shown_line(thing, worth):
    """A thing and its worth with a colon between."""
    return f"{thing}:{shown_fraction(worth)}"


def begin_looks(desk):
    """Let nothing be read and nothing be asked."""
    desk.depths = [0] * len(desk.rows)
    desk.asked = []


def looks_of(desk):
    """The looks so far."""
    return (desk.depths, desk.asked)


def tell_list(desk, words):
    """list F ..: put a list to those that are being told."""
    row = fractions_from(words, FRACTION_FIGURES)
    if row is None or len(desk.told) == MOST_LISTS:
        raise NoLine("list is followed by fractions, and at most four lists are told")
    desk.told.append(row)
    return f"list {len(desk.told) - 1}"


def need_told(desk):
    """Refuse a line that needs a list to be told."""
    if not desk.told:
        raise NoLine("no list is told")


def take_lists(desk, given):
    """take: the told lists are the book now."""
    need_told(desk)
    need_book(desk.told)
    desk.rows = desk.told
    desk.told = []
    desk.rule = ("least",)
    desk.wanted = 1
    begin_looks(desk)
    return f"lists {len(desk.rows)}"


def drop_lists(desk, given):
    """drop: forget the told lists."""
    need_told(desk)
    desk.told = []
    return "drop"


def take_rule(desk, words):
    """rule and a rule: this is the rule now."""
    rule = rule_from(words, FRACTION_FIGURES)
    if rule is None:
        raise NoLine("rule is followed by what is written as a rule")
    if not is_rule(rule, len(desk.rows)):
        raise NoRule("this is no rule for the book's lists")
    desk.rule = rule
    return "rule"


def take_count(desk, given):
    """count K: so many things are wanted now."""
    need_count(desk.rows, given[0])
    desk.wanted = given[0]
    return "count"


def tell_few(desk, given):
    """few: the best few."""
    return in_a_line([shown_line(thing, worth) for thing, worth in best_few(desk.rows, desk.rule, desk.wanted)])


def read_line(desk, given):
    """read I: the next line of a list."""
    place = given[0]
    depth = desk.depths[place]
    if depth == len(desk.rows[place]):
        return "end"
    desk.depths[place] = depth + 1
    thing = read_order(desk.rows, place)[depth]
    return shown_line(thing, desk.rows[place][thing])


def ask_worth(desk, given):
    """ask I J: the worth of a thing in a list."""
    place, thing = given
    if (place, thing) not in desk.asked:
        desk.asked = sorted(desk.asked + [(place, thing)])
    return shown_fraction(desk.rows[place][thing])


def tell_bounds(desk, given):
    """bounds J: what a thing is worth at least and at most, by the looks so far."""
    return shown_fractions(worth_bounds(desk.rows, desk.rule, looks_of(desk))[given[0]])


def tell_sure(desk, given):
    """sure: the things that are sure by the looks so far."""
    things = sure_few(desk.rows, desk.rule, desk.wanted, looks_of(desk))
    return "no" if things is None else in_a_line(things)


def tell_looks(desk, given):
    """looks: how many lines are read, and how many worths are asked that aren't read."""
    return in_a_line(count_of(desk.rows, looks_of(desk)))


def begin_again(desk, given):
    """again: looks begin anew."""
    begin_looks(desk)
    return "again"


def tell_rounds(desk, given):
    """rounds: how many rounds by_rounds needs."""
    rounds, things = by_rounds(desk.rows, desk.rule, desk.wanted)
    return str(rounds)


def tell_asking(desk, given):
    """asking: how many rounds by_asking needs, and both counts of its looks."""
    rounds, looks, things = by_asking(desk.rows, desk.rule, desk.wanted)
    return f"{rounds} {in_a_line(count_of(desk.rows, looks))}"


def tell_hope(desk, given):
    """hope: both counts of by_hope's looks."""
    looks, things = by_hope(desk.rows, desk.rule, desk.wanted)
    return in_a_line(count_of(desk.rows, looks))


def tell_least(desk, given):
    """least: least_reading's depths."""
    depths, things = least_reading(desk.rows, desk.rule, desk.wanted)
    return in_a_line(depths)


def tell_room(desk, given):
    """room I J: the least and the greatest worth of a thing in a list with which the best few stay so."""
    place, thing = given
    return shown_fractions(few_room(desk.rows, desk.rule, desk.wanted, place, thing))


def put_worth(desk, given):
    """put I J F: give a thing another worth in a list."""
    place, thing, worth = given
    desk.rows[place][thing] = worth
    begin_looks(desk)
    return "put"


def tell_unbeaten(desk, given):
    """unbeaten: the things that none beats."""
    return in_a_line(unbeaten(desk.rows))


def tell_layers(desk, given):
    """layers: how many things each layer has."""
    return in_a_line([len(layer) for layer in book_layers(desk.rows)])


# What follows each word: I a list, J a thing, K a count, F a worth; * words as they stand, which the deed reads itself.
FORMS = {
    "list": "*", "take": "", "drop": "", "rule": "*", "count": "K",
    "few": "", "read": "I", "ask": "IJ", "bounds": "J", "sure": "", "looks": "", "again": "",
    "rounds": "", "asking": "", "hope": "", "least": "", "room": "IJ", "put": "IJF", "unbeaten": "", "layers": "",
}
DEEDS = {
    "list": tell_list, "take": take_lists, "drop": drop_lists, "rule": take_rule, "count": take_count,
    "few": tell_few, "read": read_line, "ask": ask_worth, "bounds": tell_bounds, "sure": tell_sure,
    "looks": tell_looks, "again": begin_again, "rounds": tell_rounds, "asking": tell_asking, "hope": tell_hope,
    "least": tell_least, "room": tell_room, "put": put_worth, "unbeaten": tell_unbeaten, "layers": tell_layers,
}


def is_there(desk, sign, value):
    """Whether a value can stand where a form has this sign."""
    if sign == "I":
        return is_place(value, len(desk.rows))
    if sign == "J":
        return is_place(value, len(desk.rows[0]))
    if sign == "F":
        return is_worth(value)
    return value is not None


def value_of(desk, sign, word):
    """What a word means where a form has this sign."""
    value = fraction_from(word, FRACTION_FIGURES) if sign == "F" else whole_from(word, NUMBER_FIGURES)
    if not is_there(desk, sign, value):
        raise NoLine("a number is none that can stand there")
    return value


def values_of(desk, form, words):
    """What the words behind the first one mean."""
    if form == "*":
        return words
    if len(words) != len(form):
        raise NoLine("too few or too many words")
    return [value_of(desk, sign, word) for sign, word in zip(form, words)]


class Desk:
    """A book with its rule, count and looks, and the lists that are being told."""

    def __init__(self):
        self.told = []
        self.rows = [[(1, 1)]]
        self.rule = ("least",)
        self.wanted = 1
        self.depths = [0]
        self.asked = []

    def tell(self, line):
        """The answer to a line."""
        if not isinstance(line, str):
            raise NoLine("this is no line")
        word, *words = line.split(" ")
        if word not in FORMS:
            raise NoLine("no line begins so")
        given = values_of(self, FORMS[word], words)
        deed = DEEDS[word]
        return deed(self, given)
