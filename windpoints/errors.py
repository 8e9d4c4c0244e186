"""The errors with which windpoints refuses what it is handed.

Their messages never show what was handed in: it may be too great to be written out.
"""


class NoTerm(ValueError):
    """No term was handed in; at is the first path at which none stands."""

    def __init__(self, at):
        ValueError.__init__(self, "no term stands at this path")
        self.at = at


class NoName(ValueError):
    """A name is neither bound nor let; at is the path of its first such place."""

    def __init__(self, at, name):
        ValueError.__init__(self, "nothing binds or lets this name")
        self.at = at
        self.name = name


class NoPath(LookupError):
    """No part of the term stands at the path that was handed in, which is at."""

    def __init__(self, at):
        LookupError.__init__(self, "no part stands at this path")
        self.at = at


class NoChain(ValueError):
    """The worth that was handed in, which is at, is no pairs that end with None."""

    def __init__(self, at):
        ValueError.__init__(self, "this worth does not end with None")
        self.at = at


class NoText(ValueError):
    """A text is not of the form it should have; at is the first place that is wrong."""

    def __init__(self, at):
        ValueError.__init__(self, "the text is wrong at this place")
        self.at = at


class NoRow(ValueError):
    """A desk was told a row, which is at, that is none of its rows."""

    def __init__(self, at):
        ValueError.__init__(self, "this is no row of a desk")
        self.at = at


class Stuck(RuntimeError):
    """The lesser machine came to what would be a fault; word says which."""

    def __init__(self, word):
        RuntimeError.__init__(self, "the lesser machine is stuck")
        self.word = word
