"""Prices: what is needed for customers who choose, and what is cheapest to buy."""

from onceopened.errors import Unpriced
from onceopened.lots import Lot
from onceopened.numbers import join, least_with, numbers, unforked
from onceopened.shelves import unshared


def _tree(book):
    """The form of a Book that is a tree; of other Books it raises Forked or else Regretted."""
    unforked(book)
    return unshared(book)


def _check_priced(kinds, prices):
    """Raises Unpriced for the first kind without a price."""
    for kind in kinds:
        if kind not in prices:
            raise Unpriced(kind)


def _bill(kept, prices, wanted, kind, there):
    """The least price for all that is wanted of a kind and of those inside it, if so many of the kind come anyway."""
    many = max(int(there), wanted[kind])
    return prices[kind] * (many - there) + _inner_bill(kept, prices, wanted, kind, many)


def _inner_bill(kept, prices, wanted, kind, many):
    """The least price for all that is wanted of the kinds inside a kind, if so many of it are opened."""
    parts = [pair for opening in kept[kind] for pair in opening.contents.pairs()]
    return sum([_bill(kept, prices, wanted, part, many * each) for part, each in parts])


def _saves(kept, prices, wanted, kind, many):
    """Whether one piece more than so many costs less than what it spares of the kinds inside it."""
    dearer = _inner_bill(kept, prices, wanted, kind, many)
    return prices[kind] + _inner_bill(kept, prices, wanted, kind, many + 1) < dearer


def _best_many(kept, prices, wanted, kind):
    """The least number of a kind from which one piece more saves nothing."""
    if not _saves(kept, prices, wanted, kind, 0):
        return 0
    # Each further piece spares no more than the one ahead of it, so the number is found by halving.
    saving = 0
    many = 1
    while _saves(kept, prices, wanted, kind, many):
        saving, many = many, 2 * many
    while many - saving > 1:
        middle = (saving + many) // 2
        if _saves(kept, prices, wanted, kind, middle):
            saving = middle
        else:
            many = middle
    return many


def need(book, customers):
    """The least Lot that gives what all customers together ask, whichever of their Lots each of them chooses."""
    kept = _tree(book)
    found = Lot()
    for lots in customers:
        least = Lot()
        for lot in lots:
            least = join(kept, least, lot)
        found = found + least
    return found


def price(lot, prices):
    """The sum of the prices of all pieces."""
    _check_priced(lot.kinds(), prices)
    return sum([prices[kind] * many for kind, many in lot.pairs()])


def cheapest(book, stock, ask, prices):
    """The cheapest Lot of kinds in prices that, added to the stock, gives the ask."""
    kept = _tree(book)
    _check_priced(sorted(set(kept.kinds() + ask.kinds())), prices)
    asked = numbers(kept, ask)
    # The numbers that the bought Lot must have at least.
    wanted = asked - (asked & numbers(kept, stock))
    # Whether more of a kind should be bought depends on the kinds inside it alone, as long as no kind has two holders.
    for kind in kept.inner_first():
        wanted[kind] = max(int(wanted[kind]), _best_many(kept, prices, wanted, kind))
    return least_with(kept, wanted)
