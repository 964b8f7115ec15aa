"""Shelves: where no kind is shared, what is left behind the asks has one best form."""

from onceopened.errors import NoDeed, Nothing, Regretted, Short
from onceopened.lots import Lot, copy_of
from onceopened.plans import Plan, needed
from onceopened.regrets import shared
from onceopened.forms import form


def unshared(book):
    """The form of a Book in which no kind lies in two Openings; of other Books it raises Regretted."""
    kinds = shared(book)
    if len(kinds) > 0:
        raise Regretted(kinds[0])
    return form(book)


def least(book, stock, ask):
    """The Plan that does each Opening as often as it is needed for the ask, and no more often."""
    plan = needed(unshared(book), stock, ask)
    # Nothing but Short is wanted of it here.
    plan.left(stock, ask)
    return plan


def leftover(book, stock, ask):
    """What is left of the stock behind the least Plan and without the ask."""
    return needed(unshared(book), stock, ask).left(stock, ask)


class Shelf:
    """A stock from which asks are served, each one by its least Plan, and to which Lots arrive."""

    def __init__(self, book, stock):
        self._kept = unshared(book)
        # A state is the stock, all that was served, all that arrived, and the Plan of all that was opened. There is
        # one for the beginning and one behind each deed, so that the deeds can be taken back.
        self._states = [(copy_of(stock), Lot(), Lot(), Plan())]

    @property
    def stock(self):
        """A copy of what lies on the shelf."""
        return copy_of(self._states[-1][0])

    def served(self):
        """The sum of all that was served."""
        return copy_of(self._states[-1][1])

    def arrived(self):
        """The sum of all that arrived."""
        return copy_of(self._states[-1][2])

    def opened(self):
        """The sum of all Plans that were done."""
        return self._states[-1][3]

    def serve(self, ask):
        """Does the least Plan of the ask, takes the ask away, and returns the Plan."""
        stock, served, arrived, opened = self._states[-1]
        plan = needed(self._kept, stock, ask)
        self._states.append((plan.left(stock, ask), served + ask, arrived, opened + plan))
        return plan

    def arrive(self, lot):
        """The lot comes to the stock."""
        stock, served, arrived, opened = self._states[-1]
        self._states.append((stock + lot, served, arrived + lot, opened))

    def undo(self):
        """Takes back the last serving or arrival that is not taken back yet."""
        if len(self._states) == 1:
            raise NoDeed()
        self._states.pop()

    def __isub__(self, other):
        self.serve(other)
        return self

    def __iadd__(self, other):
        self.arrive(other)
        return self

    def __contains__(self, x):
        """Whether an ask could be served now."""
        stock = self._states[-1][0]
        try:
            needed(self._kept, stock, x).left(stock, x)
        except Short:
            return False
        return True

    def __floordiv__(self, other):
        """How many times an ask could be served now, one behind the other."""
        if len(other) == 0:
            raise Nothing()
        # Servings one behind the other lead as far as all of them at once, so the number is found by halving.
        many = 0
        more = 1
        while other * more in self:
            many, more = more, 2 * more
        while more - many > 1:
            middle = (many + more) // 2
            if other * middle in self:
                many = middle
            else:
                more = middle
        return many
