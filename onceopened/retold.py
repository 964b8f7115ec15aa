"""Openings told back: what was opened, as far as stocks alone tell it."""

from math import gcd

from onceopened.errors import Doubted, Unexplained
from onceopened.plans import Plan


def _change(opening, kinds):
    """By how much an Opening changes the number of each kind."""
    contents = opening.contents
    return [contents[kind] - int(kind == opening.kind) for kind in kinds]


def _shortened(row):
    """The row without the greatest common divisor of its numbers, which are not all 0."""
    common = 0
    for number in row:
        common = gcd(common, number)
    return [number // common for number in row]


def _cleared(row, other, at):
    """The row, with so much of the other one that there is 0 at this place; the other one has no 0 there."""
    return _shortened([number * other[at] - row[at] * less for number, less in zip(row, other)])


def _first_place(numbers):
    """The place of the first number that is not 0, or None."""
    for at, number in enumerate(numbers):
        if number != 0:
            return at
    return None


def _dependence(changes):
    """Numbers without a common divisor with which the changes add up to no change, for the first of them; or None."""
    kept = []
    for at, change in enumerate(changes):
        # Behind the change itself the row tells how often each of the changes went into it.
        row = change + [int(at == k) for k in range(len(changes))]
        for place, other in kept:
            row = _cleared(row, other, place)
        place = _first_place(row[:len(change)])
        if place is None:
            return _shortened(row[len(change):])
        kept.append((place, row))
    return None


def doubt(book):
    """A stock and two Plans that lead from it to the same Lot; None if stocks tell what was opened."""
    openings = book.openings()
    factors = _dependence([_change(opening, book.kinds()) for opening in openings])
    if factors is None:
        return None
    first = Plan([(opening, factor) for opening, factor in zip(openings, factors) if factor > 0])
    second = Plan([(opening, -factor) for opening, factor in zip(openings, factors) if factor < 0])
    # Both make the same change, so both need the same: what goes and does not come.
    stock = first.gone() - (first.gone() & first.come())
    return stock, first, second


def retold(book, before, served, after):
    """The Plan that was done if a stock was before, served was taken away, and after is left."""
    if doubt(book) is not None:
        raise Doubted()
    openings = book.openings()
    left = served + after
    kinds = sorted(set(book.kinds() + before.kinds() + left.kinds()))
    changes = [_change(opening, kinds) for opening in openings]
    factors = _dependence(changes + [[left[kind] - before[kind] for kind in kinds]])
    # Without a doubt the last change is the first that the others add up to: its own factor is 1 or -1, unless they
    # do so only in fractions.
    if factors is None or abs(factors[-1]) != 1:
        raise Unexplained()
    counts = [-factor * factors[-1] for factor in factors[:-1]]
    if any([many < 0 for many in counts]):
        raise Unexplained()
    return Plan(list(zip(openings, counts)))
