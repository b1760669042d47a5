"""The refusals: a class for each, all straight beneath HeadError."""


class HeadError(ValueError):
    """Any refusal."""


class NoBottom(HeadError):
    """A fraction over 0, or a quotient by 0."""


class NoBook(HeadError):
    """No book."""


class NoList(HeadError):
    """No number of a list."""


class NoRule(HeadError):
    """No rule for so many lists."""


class NoCount(HeadError):
    """No count of things."""


class NoLooks(HeadError):
    """No looks of the book."""


class NoThings(HeadError):
    """No rising list of unlike things."""


class NotSure(HeadError):
    """No things are sure."""


class NoSlack(HeadError):
    """No fraction of 1 or more."""


class NoThing(HeadError):
    """No number of a thing."""


class NoWorth(HeadError):
    """No worth, or no list of worths."""


class TooMany(HeadError):
    """More lists or things than are taken."""


class NoText(HeadError):
    """No text of what was to be read."""


class NoLine(HeadError):
    """No line that the desk knows."""
