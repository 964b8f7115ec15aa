"""Numbers: where no kind is forked, one number for each kind tells what a Lot gives."""

from onceopened.errors import Forked, Uneven
from onceopened.forms import form
from onceopened.lots import copy_of


def _held(kept, counts, kind):
    """How many of a kind come out of the Openings that hold it, counts being the numbers of their kinds."""
    return sum([opening.contents[kind] * counts[opening.kind] for opening in kept.holders(kind)])


def _outer_first(kept):
    """The kinds, each one behind all those that it is inside of."""
    return kept.inner_first()[::-1]


def _numbers_of(kept, lot):
    """The number of each kind in a Lot."""
    found = copy_of(lot)
    for kind in _outer_first(kept):
        found[kind] = found[kind] + _held(kept, found, kind)
    return found


def _lot_with(kept, counts):
    """The Lot with these numbers."""
    found = copy_of(counts)
    for kind in kept.kinds():
        held = _held(kept, counts, kind)
        if counts[kind] < held:
            raise Uneven(kind)
        found[kind] = counts[kind] - held
    return found


def least_with(kept, counts):
    """The least Lot that has these numbers or greater ones."""
    found = copy_of(counts)
    # With more pieces of the outer kinds more of the inner kinds come.
    for kind in _outer_first(kept):
        found[kind] = max(int(found[kind]), _held(kept, found, kind))
    return _lot_with(kept, found)


def unforked(book):
    """The form of a Book in which each kind has at most one Opening; of other Books it raises Forked."""
    kept = form(book)
    kinds = kept.forked_kinds()
    if len(kinds) > 0:
        raise Forked(kinds[0])
    return kept


def forked(book):
    """The ascending list of the kinds with two Openings or more in the form of the Book."""
    return form(book).forked_kinds()


def numbers(book, lot):
    """The number of each kind in a Lot, when every piece that holds it is opened."""
    return _numbers_of(unforked(book), lot)


def lot_of(book, counts):
    """The Lot with these numbers."""
    return _lot_with(unforked(book), counts)


def lack(book, stock, ask):
    """The least kind whose number is greater in the ask, with both its numbers; None if the stock gives the ask."""
    kept = unforked(book)
    there = _numbers_of(kept, stock)
    wanted = _numbers_of(kept, ask)
    for kind, many in wanted.pairs():
        if there[kind] < many:
            return (kind, there[kind], many)
    return None


def meet(book, one, other):
    """The greatest Lot that both give."""
    kept = unforked(book)
    return _lot_with(kept, _numbers_of(kept, one) & _numbers_of(kept, other))


def join(book, one, other):
    """The least Lot that gives both."""
    kept = unforked(book)
    return least_with(kept, _numbers_of(kept, one) | _numbers_of(kept, other))


def times(book, stock, ask):
    """The greatest number n such that the stock gives the ask n times."""
    kept = unforked(book)
    return _numbers_of(kept, stock) // _numbers_of(kept, ask)
