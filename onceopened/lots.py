"""Lots: how many pieces there are of each kind."""

from onceopened.errors import BadText, Below, Nothing, Short

_LETTERS = "abcdefghijklmnopqrstuvwxyz"
_LONGEST_KIND = 8
_DIGITS = "0123456789"
_MOST_DIGITS = 300


def is_kind(word):
    """Whether a word is a KIND. Python's own tests would take letters of other alphabets, too."""
    return 1 <= len(word) <= _LONGEST_KIND and all([letter in _LETTERS for letter in word])


def _is_many(word):
    """Whether a word is a number from 1, as the text of a Lot writes it."""
    if not 1 <= len(word) <= _MOST_DIGITS or word[0] == "0":
        return False
    return all([digit in _DIGITS for digit in word])


def _counted(pairs):
    """The sum of the numbers for each kind; kinds with the number 0 are left out."""
    found = {}
    for kind, many in pairs:
        if many < 0:
            raise Below(kind, many)
        if many > 0:
            found[kind] = found.get(kind, 0) + many
    return found


class Lot:
    """Tells how many there are of each kind. It is changed by [] =, += and -= alone."""

    def __init__(self, pairs=()):
        # Numbers of 0 are never kept, so that equal Lots have equal dicts.
        self._many = _counted(pairs)

    @classmethod
    def of(cls, text):
        """The Lot with just this text."""
        if text == "-":
            return cls()
        words = text.split(" ")
        counts = words[::2]
        kinds = words[1::2]
        if len(counts) != len(kinds) or not all([_is_many(word) for word in counts]):
            raise BadText()
        if not all([is_kind(word) for word in kinds]) or kinds != sorted(set(kinds)):
            raise BadText()
        return cls([(kind, int(word)) for kind, word in zip(kinds, counts)])

    def __getitem__(self, at):
        """How many there are of a kind."""
        return self._many.get(at, 0)

    def __setitem__(self, at, worth):
        """There are so many of a kind from now on."""
        if worth < 0:
            raise Below(at, worth)
        if worth > 0:
            self._many[at] = worth
        elif at in self._many:
            del self._many[at]

    def __iter__(self):
        raise TypeError("a Lot is not iterated over: take its kinds() or pairs()")

    def __contains__(self, x):
        """Whether there is at least one of a kind."""
        return x in self._many

    def __len__(self):
        """Of how many kinds there is at least one."""
        return len(self._many)

    def __abs__(self):
        """How many pieces there are, all kinds together."""
        return sum([self._many[kind] for kind in self._many])

    def __eq__(self, other):
        return isinstance(other, Lot) and self._many == other._many

    def kinds(self):
        """The ascending list of the kinds of which there is at least one."""
        return sorted(set(self._many))

    def pairs(self):
        """The ascending tuple of the pairs (kind, many)."""
        return tuple([(kind, self._many[kind]) for kind in self.kinds()])

    def within(self, other):
        """Whether other has as many of each kind as this Lot, or more."""
        return all([many <= other[kind] for kind, many in self.pairs()])

    def __add__(self, other):
        """Both together."""
        return Lot(self.pairs() + other.pairs())

    def __sub__(self, other):
        """What is left of this Lot without other."""
        for kind, many in other.pairs():
            if self[kind] < many:
                raise Short(kind, many - self[kind])
        return Lot([(kind, many - other[kind]) for kind, many in self.pairs()])

    def __mul__(self, other):
        """So many times as many of each kind, other being a number."""
        return Lot([(kind, many * other) for kind, many in self.pairs()])

    def __rmul__(self, other):
        return self * other

    def __and__(self, other):
        """Of each kind the lesser one of the two numbers."""
        return Lot([(kind, min(int(many), other[kind])) for kind, many in self.pairs()])

    def __or__(self, other):
        """Of each kind the greater one of the two numbers."""
        return self + (other - (self & other))

    def __floordiv__(self, other):
        """How many times other lies in this Lot."""
        if len(other) == 0:
            raise Nothing()
        return min([int(self[kind] // many) for kind, many in other.pairs()])

    def __mod__(self, other):
        """What is left of this Lot when other is taken away as often as it lies in it."""
        return self - other * (self // other)

    def __iadd__(self, other):
        self._many = _counted(self.pairs() + other.pairs())
        return self

    def __isub__(self, other):
        self._many = _counted((self - other).pairs())
        return self

    def text(self):
        """The numbers and kinds with single blanks between them."""
        if len(self) == 0:
            return "-"
        return " ".join([f"{many} {kind}" for kind, many in self.pairs()])


def one_of(kind):
    """The Lot of a single piece."""
    return Lot(((kind, 1),))


def copy_of(lot):
    """A new Lot that is equal to the given one."""
    return Lot(lot.pairs())
