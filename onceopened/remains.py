"""Remains: what a single stock becomes, and what it leaves behind an ask."""

from onceopened.lots import Lot
from onceopened.plans import Plan


def _ascending(lots):
    """New Lots, each once, ascending by their pairs."""
    return [Lot(pairs) for pairs in sorted(set([lot.pairs() for lot in lots]))]


def opened_once(book, lot):
    """The Lots that one Opening makes of a Lot."""
    return [Plan(((opening, 1),)).after(lot) for opening in book.openings() if opening.kind in lot]


def becomes(book, stock):
    """The ascending list of all Lots that the stock becomes, the stock too."""
    found = {stock.pairs(): stock}
    waiting = [stock]
    while waiting:
        lot = waiting.pop()
        for after in opened_once(book, lot):
            if after.pairs() not in found:
                found[after.pairs()] = after
                waiting.append(after)
    return _ascending(list(found.values()))


def leftovers(book, stock, ask):
    """The ascending list of the greatest leftovers behind the ask."""
    left = [lot - ask for lot in becomes(book, stock) if ask.within(lot)]
    # Whatever one of these becomes is one of them, too. So one that another one gives comes from one of them by one
    # Opening, or lies in one of them.
    later = {after.pairs(): True for lot in left for after in opened_once(book, lot)}
    first = [lot for lot in left if lot.pairs() not in later]
    return _ascending([lot for lot in first if not any([lot.within(other) for other in left if other != lot])])
