"""Books and rules as texts, and texts as books and rules."""

from bestheads.books import is_book, need_book
from bestheads.errors import NoRule, NoText
from bestheads.fracs import is_fraction
from bestheads.rules import BARE_RULES, is_rule

MOST_FIGURES = 40


def shown_fraction(fraction):
    """A fraction of 0 or more as it is written."""
    top, bottom = fraction
    return str(top) if bottom == 1 else f"{top}/{bottom}"


def shown_fractions(fractions):
    """Fractions as they are written, with a blank between."""
    return " ".join([shown_fraction(fraction) for fraction in fractions])


def shown_book(book):
    """A book as it is written."""
    need_book(book)
    return "\n".join([shown_fractions(row) for row in book])


def shown_rule(rule, many):
    """A rule for so many lists as it is written."""
    if not is_rule(rule, many):
        raise NoRule("this is no rule for so many lists")
    if rule[0] == "shares":
        return f"shares {shown_fractions(rule[1])}"
    if rule[0] == "middle":
        return f"middle {rule[1]}"
    return rule[0]


def whole_from(word, figures):
    """The whole number that is written so, in at most so many figures, None where it is none."""
    if not word.isascii() or not word.isdigit() or len(word) > figures:
        return None
    if word[0] == "0" and word != "0":
        return None
    return int(word)


def fraction_from(word, figures):
    """The fraction that is written so, in at most so many figures above and below, None where it is none."""
    above, sign, below = word.partition("/")
    top = whole_from(above, figures)
    bottom = whole_from(below, figures) if sign else 1
    # A bottom of 1 isn't written.
    if (sign and bottom == 1) or not is_fraction((top, bottom)):
        return None
    return (top, bottom)


def fractions_from(words, figures):
    """The fractions that are written so, None where there are none or one is none."""
    fractions = [fraction_from(word, figures) for word in words]
    return None if not fractions or None in fractions else fractions


def rule_from(words, figures):
    """What is written as a rule, be it one for some lists or not, None where it isn't written so."""
    if words[:1] == ["shares"]:
        weights = fractions_from(words[1:], figures)
        return None if weights is None else ("shares", weights)
    if words[:1] == ["middle"] and len(words) == 2:
        place = whole_from(words[1], figures)
        return None if place is None else ("middle", place)
    return tuple(words) if tuple(words) in BARE_RULES else None


def need_text(text):
    """Refuse what is no text."""
    if not isinstance(text, str):
        raise NoText("this is no text")


def read_book(text):
    """The book that is written so."""
    need_text(text)
    book = [fractions_from(line.split(" "), MOST_FIGURES) for line in text.split("\n")]
    if not is_book(book):
        raise NoText("this is no text of a book")
    return book


def read_rule(text, many):
    """The rule for so many lists that is written so."""
    need_text(text)
    rule = rule_from(text.split(" "), MOST_FIGURES)
    if not is_rule(rule, many):
        raise NoText("this is no text of a rule for so many lists")
    return rule
