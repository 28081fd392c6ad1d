"""The errors of the package, each with the one field that tells what was refused."""


class SignError(ValueError):
    """Any argument that is refused."""


class BadPeople(SignError):
    """A value that is no people."""

    def __init__(self, value):
        self.value = value


class BadLot(SignError):
    """A value that is no lot of the people."""

    def __init__(self, value):
        self.value = value


class BadClause(SignError):
    """A value that can't be the field of a clause that place names."""

    def __init__(self, place):
        self.place = place


class BadBook(SignError):
    """A value that can't be in a book: a clause's number, "lent", or None for all clauses."""

    def __init__(self, place):
        self.place = place


class BadRow(SignError):
    """A value that is no payment that can be made."""

    def __init__(self, value):
        self.value = value


class BadWish(SignError):
    """A value that is no wish."""

    def __init__(self, value):
        self.value = value


class BadNumber(SignError):
    """A value that is no number, name or field that could stand there."""

    def __init__(self, value):
        self.value = value


class BadPaper(SignError):
    """A value that is no paper, for what place names."""

    def __init__(self, place):
        self.place = place


class BadText(SignError):
    """A text that can't be read, from a line on, or None for a value that is no text."""

    def __init__(self, line):
        self.line = line


class TooMany(OverflowError):
    """More than most is wanted."""

    def __init__(self, most):
        self.most = most
