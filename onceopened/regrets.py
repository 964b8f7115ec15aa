"""Regrets: where a keeper fails, whatever it does, because it cannot know what is asked next."""

from onceopened.books import Book, Opening
from onceopened.errors import Forked, NoRegret, Short, Taken
from onceopened.forms import form
from onceopened.lots import copy_of, one_of
from onceopened.numbers import join
from onceopened.plans import Plan, gives, plan_for
from onceopened.remains import leftovers


def _leaves_both(kept, stock, ask, first, second):
    """Whether one leftover behind the ask gives first and gives second; the stock gives the ask with either."""
    if len(kept.shared_kinds()) == 0:
        # The best leftover gives all others.
        return True
    if len(kept.forked_kinds()) == 0:
        # A leftover gives both exactly if it gives their join.
        return gives(kept, stock, ask + join(kept, first, second))
    for lot in leftovers(kept, stock, ask):
        if gives(kept, lot, first) and gives(kept, lot, second):
            return True
    return False


def _without(kept, contents, kinds):
    """The contents, in which each kind that is not in kinds is opened, or left out if it cannot be opened."""
    found = contents
    for kind in kept.inner_first()[::-1]:
        if kind not in kinds:
            gone = one_of(kind) * found[kind]
            for opening in kept[kind]:
                found = found + opening.contents * found[kind]
            found = found - gone
    return found


def _left_by(keeper, book, stock, asks):
    """What a keeper has left when it has served the last ask; None if it does not serve it."""
    plan = keeper(copy_of(stock), tuple([copy_of(ask) for ask in asks]))
    if not plan.fits(book):
        return None
    try:
        return plan.left(stock, asks[-1])
    except Short:
        return None


def shared(book):
    """The ascending list of the kinds that lie in at least two Openings of the form of the Book."""
    return form(book).shared_kinds()


def regret(book):
    """A Regret of the Book, or None if no kind is shared."""
    kept = form(book)
    kinds = kept.shared_kinds()
    if len(kinds) == 0:
        return None
    one, other = kept.holders(kinds[0])[:2]
    ask = one_of(kinds[0])
    # Whoever does one of the two Openings for a piece of the shared kind can no longer have what the other one leaves.
    first, second = one.contents - ask, other.contents - ask
    if one.kind == other.kind:
        return Regret(book, one_of(one.kind), ask, first, second)
    left, right = one_of(one.kind), one_of(other.kind)
    return Regret(book, left + right, ask, first + right, second + left)


def is_regret(book, stock, ask, first, second):
    """Whether the stock gives the ask with first and with second, but no leftover behind the ask gives both."""
    kept = form(book)
    if not gives(kept, stock, ask + first) or not gives(kept, stock, ask + second):
        return False
    return not _leaves_both(kept, stock, ask, first, second)


def asked_only(book, kinds):
    """The Book that knows the kinds of the list alone, and gives the same Lots of them from stocks of them."""
    kept = form(book)
    for kind in kept.forked_kinds():
        if kind not in kinds:
            raise Forked(kind)
    rows = [(opening.kind, _without(kept, opening.contents, kinds)) for opening in kept.openings()]
    return Book([Opening(kind, contents) for kind, contents in rows if kind in kinds and len(contents) > 0])


class Regret:
    """A stock, an ask and two further asks: behind the ask one of the two cannot be served. It never changes."""

    def __init__(self, book, stock, ask, first, second):
        if not is_regret(book, stock, ask, first, second):
            raise NoRegret()
        self._book = book
        self._kept = form(book)
        self._stock = copy_of(stock)
        self._ask = copy_of(ask)
        self._first = copy_of(first)
        self._second = copy_of(second)

    @property
    def stock(self):
        """The Lot that a keeper begins with."""
        return copy_of(self._stock)

    @property
    def ask(self):
        """What it is asked first."""
        return copy_of(self._ask)

    @property
    def first(self):
        """One of the two further asks."""
        return copy_of(self._first)

    @property
    def second(self):
        """The other one of the two."""
        return copy_of(self._second)

    def plans(self):
        """Two Plans: one for the ask and first, one for the ask and second."""
        one = plan_for(self._kept, self._stock, self._ask + self._first)
        other = plan_for(self._kept, self._stock, self._ask + self._second)
        return one, other

    def rows(self, ahead, kind):
        """Two rows of asks that differ in the last one alone; there are so many asks of a new kind ahead of it."""
        if kind in self._book.kinds() or kind in self._stock:
            raise Taken(kind)
        one = [self.ask] + [one_of(kind) for _ in range(ahead)] + [self.first]
        other = [self.ask] + [one_of(kind) for _ in range(ahead)] + [self.second]
        return tuple(one), tuple(other)

    def beat(self, keeper, extra):
        """The asks, the last of which a keeper does not serve that begins with the stock and something extra."""
        left = self._stock + extra
        asks = []
        if len(extra) > 0:
            asks.append(copy_of(extra))
            left = _left_by(keeper, self._book, left, asks)
        if left is not None:
            # Whoever has opened anything for the extra ask has no longer what the stock comes to.
            asks.append(self.ask if left == self._stock else self.stock)
            left = _left_by(keeper, self._book, left, asks)
        if left is not None:
            asks.append(self.second if gives(self._kept, left, self._first) else self.first)
            _left_by(keeper, self._book, left, asks)
        return tuple(asks)


class Hand:
    """A keeper that serves each ask by some Plan that does nothing needless."""

    def __init__(self, book):
        self._kept = form(book)

    def __call__(self, stock, asks):
        """The Plan for the last ask; an empty one if there is none."""
        plan = plan_for(self._kept, stock, asks[-1])
        if plan is None:
            return Plan()
        return plan
