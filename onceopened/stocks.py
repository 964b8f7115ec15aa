"""Single stocks: whether nobody need regret anything, and whether promises can be held."""

from onceopened.forms import form
from onceopened.lots import one_of
from onceopened.plans import gives
from onceopened.regrets import Regret
from onceopened.remains import becomes, leftovers, opened_once

# A set of the Lots that a stock becomes is a number here: the n-th bit tells whether the n-th one of them is in it.


def _becoming(book, lots):
    """For each of the Lots the set of those that become it, itself too."""
    places = {lot.pairs(): at for at, lot in enumerate(lots)}
    found = [1 << at for at in range(len(lots))]
    # Each opening lowers the worth, so at its turn a Lot has all those that become it.
    for _, at in sorted(set([(book.worth(lot), at) for at, lot in enumerate(lots)]))[::-1]:
        for after in opened_once(book, lots[at]):
            later = places[after.pairs()]
            found[later] = found[later] | found[at]
    return found


def _having(lots):
    """For each kind and number the set of the Lots that have as many of the kind."""
    found = {}
    for at, lot in enumerate(lots):
        for kind, many in lot.pairs():
            for less in range(many):
                key = (kind, less + 1)
                found[key] = found.get(key, 0) | (1 << at)
    return found


def _holding(having, every, lot):
    """The set of the Lots in which a Lot lies that lies in one of them, every being that of all Lots."""
    found = every
    for pair in lot.pairs():
        found = found & having[pair]
    return found


def _giving(becoming, holding):
    """The set of the Lots that give a Lot, holding being that of those in which it lies."""
    found = 0
    for at, before in enumerate(becoming):
        if (holding >> at) & 1 == 1:
            found = found | before
    return found


def _unsafe_pair(book, lots):
    """Two of the Lots such that none of them has what both have and gives both; None if there are no such two."""
    becoming = _becoming(book, lots)
    having = _having(lots)
    every = (1 << len(lots)) - 1
    giving = [_giving(becoming, _holding(having, every, lot)) for lot in lots]
    for at, one in enumerate(lots):
        for place, other in enumerate(lots[:at]):
            if giving[at] & giving[place] & _holding(having, every, one & other) == 0:
                return one, other
    return None


def _some_left(kept, left, ask, promises):
    """Whether a keeper can serve the ask and hold the promises then."""
    for lot in leftovers(kept, left, ask):
        if _held(kept, lot, promises):
            return True
    return False


def _held(kept, left, promises):
    """Whether a keeper can serve every row of asks of one piece whose sum lies within one of the promises."""
    for promise in promises:
        if not gives(kept, left, promise):
            return False
    for kind in sorted(set([kind for promise in promises for kind in promise.kinds()])):
        ask = one_of(kind)
        later = [promise - ask for promise in promises if kind in promise]
        # With one promise left, the keeper knows all that it needs.
        if len(later) > 1 and not _some_left(kept, left, ask, later):
            return False
    return True


def unsafe(book, stock):
    """A Regret of the Book with this stock; None if the stock is safe."""
    kept = form(book)
    if len(kept.shared_kinds()) == 0:
        return None
    found = _unsafe_pair(kept, becomes(kept, stock))
    if found is None:
        return None
    one, other = found
    # What the two have in common is the ask. Two Lots give each other exactly if they do so with more on both sides,
    # so no leftover behind it gives what is left of the one and what is left of the other.
    ask = one & other
    return Regret(book, stock, ask, one - ask, other - ask)


def holds(book, stock, promises):
    """Whether some keeper serves, from the stock, every row of asks whose sum lies within one of the promises."""
    return _held(form(book), stock, promises)
