"""The refusals, each a class of its own.

Python keeps what an error is made of as its words, so none of these hands words to its base.
"""


class GapError(ValueError):
    """Any refusal."""


class BadText(GapError):
    """What isn't the text that it is read as; `at` is the first row by which it can't be."""

    def __init__(self, at):
        self.at = at


class Twice(GapError):
    """A name, or a gap's number, that stands ahead already."""

    def __init__(self, name):
        self.name = name


class NoName(GapError):
    """A name that isn't there."""

    def __init__(self, name):
        self.name = name


class WrongCount(GapError):
    """Another number of things than the name takes."""

    def __init__(self, name):
        self.name = name


class Clash(GapError):
    """Kinds that can't be found."""


class NoGap(GapError):
    """A gap that isn't there."""

    def __init__(self, number):
        self.number = number


class TooLong(GapError):
    """More doings than `most`."""

    def __init__(self, most):
        self.most = most


class TooMany(GapError):
    """More rows of a search than `most`."""

    def __init__(self, most):
        self.most = most


class NoRow(GapError):
    """What is no row that a desk takes."""
