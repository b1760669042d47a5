"""Rules: how a thing's worths in all lists make one worth."""

from bestheads.books import MOST_LISTS, are_worths, need_book
from bestheads.errors import NoRule, NoWorth
from bestheads.fracs import common_bottom, falling_places, frac_sum, frac_times, is_fraction, is_whole

BARE_RULES = (("least",), ("greatest",), ("product",))


def are_weights(thing, many):
    """Whether anything is a list of so many fractions of 0 or more."""
    if not isinstance(thing, list) or len(thing) != many:
        return False
    return all([is_fraction(part) and part[0] >= 0 for part in thing])


def is_rule(thing, many):
    """Whether anything is a rule for so many lists."""
    if not isinstance(thing, tuple):
        return False
    if len(thing) != 2:
        return thing in BARE_RULES
    word, rest = thing
    if word == "shares":
        return are_weights(rest, many)
    return word == "middle" and is_whole(rest) and 1 <= rest <= many


def shares_worth(weights, worths):
    """The sum of weight times worth."""
    total = (0, 1)
    for weight, worth in zip(weights, worths):
        total = frac_sum(total, frac_times(weight, worth))
    return total


def product_worth(worths):
    """The product of the worths."""
    product = (1, 1)
    for worth in worths:
        product = frac_times(product, worth)
    return product


def place_of(rule, many):
    """Which of so many worths, greatest first and counted from 1, is taken by greatest, least or middle."""
    if rule[0] == "greatest":
        return 1
    if rule[0] == "least":
        return many
    return rule[1]


def worth_by(rule, worths):
    """rule_worth of what is known to be a rule and its worths."""
    if rule[0] == "shares":
        return shares_worth(rule[1], worths)
    if rule[0] == "product":
        return product_worth(worths)
    return worths[falling_places(worths)[place_of(rule, len(worths)) - 1]]


def rule_worth(rule, worths):
    """The one worth that the rule makes of one to four worths."""
    if not are_worths(worths, MOST_LISTS):
        raise NoWorth("this is no list of one to four worths")
    if not is_rule(rule, len(worths)):
        raise NoRule("this is no rule for as many lists")
    return worth_by(rule, worths)


def need_book_and_rule(book, rule):
    """Refuse what is no book, then what is no rule for its lists."""
    need_book(book)
    if not is_rule(rule, len(book)):
        raise NoRule("this is no rule for the book's lists")


def whole_form(book, rule):
    """A book and a rule with all worths times one number and all weights times one, so that they are whole,
    and what becomes of the worth 1."""
    # Every thing's worth by the rule is multiplied alike then, so that they compare as before; but whole
    # fractions are reckoned with much sooner, as no divisors are to be looked for.
    one = (common_bottom([worth for row in book for worth in row]), 1)
    rows = [[frac_times(worth, one) for worth in row] for row in book]
    if rule[0] != "shares":
        return (rows, rule, one)
    factor = (common_bottom(rule[1]), 1)
    return (rows, ("shares", [frac_times(weight, factor) for weight in rule[1]]), one)


def copied_rule(rule):
    """The same rule, with a fresh list of weights."""
    return ("shares", list(rule[1])) if rule[0] == "shares" else rule
