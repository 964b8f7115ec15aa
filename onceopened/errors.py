"""The errors of the package, each with its values in attributes."""


class Below(ValueError):
    """A number below 0 was given for a kind."""

    def __init__(self, kind, many):
        self.kind = kind
        self.many = many


class Hollow(ValueError):
    """The contents of an Opening of this kind are empty."""

    def __init__(self, kind):
        self.kind = kind


class Ringed(ValueError):
    """Each kind of the ring lies in an Opening of the one ahead of it, the first in one of the last."""

    def __init__(self, ring):
        self.ring = ring


class Short(ValueError):
    """So many of a kind are lacking."""

    def __init__(self, kind, lacking):
        self.kind = kind
        self.lacking = lacking


class Regretted(ValueError):
    """The kind lies in two Openings, so that whoever opens one can regret it."""

    def __init__(self, kind):
        self.kind = kind


class Forked(ValueError):
    """The kind can be opened in two ways or more."""

    def __init__(self, kind):
        self.kind = kind


class Uneven(ValueError):
    """The number of the kind is less than the kinds that hold it give."""

    def __init__(self, kind):
        self.kind = kind


class NoRegret(ValueError):
    """Both further asks can still be served together with the first one."""


class Taken(ValueError):
    """The kind is no new one."""

    def __init__(self, kind):
        self.kind = kind


class Unpriced(ValueError):
    """The kind has no price."""

    def __init__(self, kind):
        self.kind = kind


class Doubted(ValueError):
    """The stocks do not tell what was opened."""


class Unexplained(ValueError):
    """Nothing that could have been opened explains the stocks."""


class BadText(ValueError):
    """The text is not that of a Lot."""


class BadLine(ValueError):
    """The line with this number, counted from 0, cannot be read."""

    def __init__(self, number):
        self.number = number


class NoDeed(LookupError):
    """There is nothing to take back."""


class Nothing(ZeroDivisionError):
    """The Lot that was to be counted is empty."""
