"""Forms: what two Books that give the same have in common."""

from onceopened.books import Book
from onceopened.lots import one_of
from onceopened.plans import gives


def _is_idle(book, opening):
    """Whether another Opening of the same kind is never worse than this one."""
    others = [other for other in book[opening.kind] if other != opening]
    return any([gives(book, other.contents, opening.contents) for other in others])


def _can(book, opening):
    """Whether the Book gives the contents of an Opening, of whatever Book, from one piece of its kind."""
    return gives(book, one_of(opening.kind), opening.contents)


def idle(book):
    """The ascending list of the idle Openings."""
    return [opening for opening in book.openings() if _is_idle(book, opening)]


def form(book):
    """The Book of all Openings that are not idle."""
    return book - Book(idle(book))


def covers(book, other):
    """Whether the Book gives a Lot from a stock whenever the other one does."""
    return all([_can(book, opening) for opening in other.openings()])


def alike(one, other):
    """Whether each of both Books covers the other."""
    return covers(one, other) and covers(other, one)


def parted(one, other):
    """The least Opening of the two forms that one of the Books cannot do in any way; None if they are alike."""
    found = [opening for opening in form(one).openings() if not _can(other, opening)]
    found.extend([opening for opening in form(other).openings() if not _can(one, opening)])
    least = None
    for opening in found:
        if least is None or opening < least:
            least = opening
    return least
