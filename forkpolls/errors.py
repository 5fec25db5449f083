"""The errors of the package."""


class PollError(ValueError):
    """What the errors of this package have in common."""


class InvalidRow(PollError):
    """An argument of a row, named by `word`, is wrong."""

    def __init__(self, word):
        self.word = word


class InvalidBook(PollError):
    """An argument of a book, named by `word`, is wrong."""

    def __init__(self, word):
        self.word = word


class InvalidText(PollError):
    """The line with the number `at` cannot stand at its place."""

    def __init__(self, at):
        self.at = at


class InvalidEvent(PollError):
    """The thing with the number `at` is no event, or not possible."""

    def __init__(self, at):
        self.at = at


class InvalidFault(PollError):
    """This is no fault."""


class InvalidCommand(PollError):
    """A desk cannot do this command."""


class Refused(PollError):
    """Of several events the one with the index `at` was wrong."""

    def __init__(self, at):
        self.at = at


class NoRow(IndexError):
    """There is no row with the number `at`."""

    def __init__(self, at):
        self.at = at


class NoMark(KeyError):
    """There is no mark `name`."""

    def __init__(self, name):
        self.name = name
