"""A keeper of a best few while worths change."""

from bestheads.best import best_few, best_things, need_book_rule_and_count, worths_by
from bestheads.books import is_worth, need_list, need_thing
from bestheads.errors import NoWorth
from bestheads.looks import are_sure
from bestheads.rooms import room_by
from bestheads.rules import copied_rule


def copied_rows(rows):
    """Fresh lists of the same worths."""
    return [list(row) for row in rows]


def are_best(book, rule, things):
    """Whether things are a best few."""
    # All is known of the book, so each thing's low and high are its worth.
    return are_sure([(worth, worth) for worth in worths_by(book, rule)], things)


class Keeper:
    """Keeps a book, a rule, a count, and so many things that are a best few."""

    def __init__(self, book, rule, count):
        need_book_rule_and_count(book, rule, count)
        self.rows = copied_rows(book)
        self.rule = copied_rule(rule)
        self.wanted = count
        self.kept = best_things(book, rule, count)
        self.kept_before = self.kept
        self.changes = 0

    def put(self, place, thing, worth):
        """Give a thing another worth in a list, and tell whether the kept things were exchanged for it."""
        need_list(self.rows, place)
        need_thing(self.rows, thing)
        if not is_worth(worth):
            raise NoWorth("this is no worth")
        self.rows[place][thing] = worth
        if are_best(self.rows, self.rule, self.kept):
            return False
        self.kept = best_things(self.rows, self.rule, self.wanted)
        self.changes += 1
        return True

    def things(self):
        """The kept things."""
        return list(self.kept)

    def book(self):
        """The book as it now is."""
        return copied_rows(self.rows)

    def few(self):
        """best_few of the book as it now is."""
        return best_few(self.rows, self.rule, self.wanted)

    def exchanges(self):
        """How often the kept things were exchanged."""
        return self.changes

    def room(self, place, thing):
        """The least and the greatest worth of a thing in a list with which the kept things are kept."""
        need_list(self.rows, place)
        need_thing(self.rows, thing)
        return room_by(self.rows, self.rule, self.kept, place, thing)

    def come(self):
        """The things that came to be kept since this was asked last, and those that are no longer kept."""
        came = [thing for thing in self.kept if thing not in self.kept_before]
        went = [thing for thing in self.kept_before if thing not in self.kept]
        self.kept_before = self.kept
        return (came, went)
