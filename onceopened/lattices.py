"""Lattices: whether each two Lots have a greatest common one, and whether meet and join distribute."""

from onceopened.forms import form
from onceopened.lots import one_of
from onceopened.numbers import join, numbers, unforked


def _two_holders(kept, kind):
    """Two Openings that hold a shared kind; the kind of the first one is not inside that of the second one."""
    one, other = kept.holders(kind)[:2]
    if one.kind in kept.inside(other.kind):
        return other, one
    return one, other


def torn(book):
    """Four Lots, the first two of which both give the other two but have no greatest common Lot; or None."""
    kept = form(book)
    kinds = kept.forked_kinds()
    if len(kinds) == 0:
        return None
    rows = kept[kinds[0]]
    first, second = rows[0].contents, rows[1].contents
    return one_of(kinds[0]), first + second, first, second


def skew(book):
    """Three Lots for which meet and join do not distribute over each other; or None."""
    kept = unforked(book)
    kinds = kept.shared_kinds()
    if len(kinds) == 0:
        return None
    one, other = _two_holders(kept, kinds[0])
    left = one_of(one.kind)
    # More of the other holder than the left Lot has, so that their join has more of both than either of them.
    right = one_of(other.kind) * (numbers(kept, left)[other.kind] + 1)
    # Of the shared kind as many as come out of the join: neither Lot alone gives so many.
    top = one_of(kinds[0]) * numbers(kept, join(kept, left, right))[kinds[0]]
    return top, left, right


def is_tree(book):
    """Whether no kind is forked, and none is shared."""
    kept = form(book)
    return len(kept.forked_kinds()) == 0 and len(kept.shared_kinds()) == 0
