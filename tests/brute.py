"""What the document says, tried out piece by piece over plain tuples, and small Books to try it with.

A bag is the ascending tuple of the pairs (kind, many), like lot.pairs(); rows are pairs (kind, bag), like Openings.
"""

import random

from onceopened.books import Book
from onceopened.lots import Lot


def bag_of(counts):
    return tuple((kind, many) for kind, many in sorted(counts.items()) if many)


def rows_of(book):
    return [(opening.kind, opening.contents.pairs()) for opening in book.openings()]


def lies_in(one, other):
    there = dict(other)
    return all(many <= there.get(kind, 0) for kind, many in one)


def added(one, other, sign=1):
    counts = dict(one)
    for kind, many in other:
        counts[kind] = counts.get(kind, 0) + sign * many
    return bag_of(counts)


def becomes(rows, stock):
    """All bags that the stock becomes."""
    found, waiting = {stock}, [stock]
    while waiting:
        bag = waiting.pop()
        for kind, contents in rows:
            if kind in dict(bag):
                after = added(added(bag, ((kind, 1),), -1), contents)
                if after not in found:
                    found.add(after)
                    waiting.append(after)
    return found


def gives(rows, stock, ask):
    return any(lies_in(ask, bag) for bag in becomes(rows, stock))


def leftovers(rows, stock, ask):
    """All leftovers of which no other one gives it, ascending."""
    every = {part for bag in becomes(rows, stock) if lies_in(ask, bag) for part in parts_of(added(bag, ask, -1))}
    given = {one: {part for bag in becomes(rows, one) for part in parts_of(bag)} for one in every}
    return sorted(one for one in every if not any(one in given[other] for other in every if other != one))


def parts_of(bag):
    """All bags that lie in a bag."""
    found = [()]
    for kind, many in bag:
        found = [part + ((kind, some),) if some else part for part in found for some in range(many + 1)]
    return found


def one_of(kind):
    return Lot(((kind, 1),))


def line_of(chance, kinds):
    """An Opening's text: some kinds come out of one that stands ahead of them."""
    at = chance.randrange(len(kinds) - 1)
    counts = {}
    for _ in range(chance.randint(1, 4)):
        part = chance.choice(kinds[at + 1:])
        counts[part] = counts.get(part, 0) + 1
    return f"{kinds[at]} = {Lot(counts.items()).text()}"


def book_of(chance, worth, kinds):
    """A Book of 1 to 8 Openings, at most 3 of a kind, in which the worth of each kind is at most worth."""
    lines = set()
    for _ in range(chance.randint(1, 12)):
        more = lines | {line_of(chance, kinds)}
        book = Book.of("\n".join(more))
        if len(more) <= 8 and all(len(book[kind]) <= 3 and book.worth(one_of(kind)) <= worth for kind in kinds):
            lines = more
    return Book.of("\n".join(lines) or "-")


def books(seed, many, worth=10, kinds="abcdef"):
    """The chance that made them, and so many Books of any sort; each seed gives the same ones."""
    chance = random.Random(seed)
    return chance, [book_of(chance, worth, kinds) for _ in range(many)]


def lot_of(chance, book, worth, kinds="abcdef"):
    """A Lot whose worth is at most the given one, and mostly near it."""
    lot = Lot()
    for _ in range(chance.randint(1, 12)):
        more = lot + one_of(chance.choice(kinds))
        if book.worth(more) <= worth:
            lot = more
    return lot


def ask_of(chance, book, stock, kinds="abcdef"):
    """Often a Lot that the stock gives, and otherwise one that it may not give."""
    if chance.random() < 0.3:
        return lot_of(chance, book, 16, kinds)
    lot = Lot(chance.choice(sorted(becomes(rows_of(book), stock.pairs()))))
    for kind in lot.kinds():
        lot[kind] = chance.randint(0, lot[kind])
    if chance.random() < 0.2:
        lot = lot + one_of(chance.choice(kinds))
    return lot


def given(rows, stock):
    """All bags that a stock gives."""
    return {part for bag in becomes(rows, stock) for part in parts_of(bag)}


def left_behind(rows, stock, ask):
    """All that can be left of a stock when an ask is served, nothing thrown away."""
    return {added(bag, ask, -1) for bag in becomes(rows, stock) if lies_in(ask, bag)}


def is_regret(rows, stock, ask, first, second):
    """As the document says: both can be served, and no leftover behind the ask gives each of both."""
    if not all(gives(rows, stock, added(ask, more)) for more in (first, second)):
        return False
    return not any(gives(rows, left, first) and gives(rows, left, second) for left in left_behind(rows, stock, ask))


def is_unsafe(rows, stock):
    """Whether there are two or more greatest leftovers behind some ask that the stock gives."""
    return any(len(leftovers(rows, stock, ask)) > 1 for ask in given(rows, stock))


def holds(rows, stock, promises):
    """Whether some keeper serves every row of asks within one of the promises, the asks being of any size."""
    known = {}

    def wins(left, asked):
        """Whether it does so from what is left, when so much was asked already."""
        if (left, asked) not in known:
            more = {part for promise in promises if lies_in(asked, promise)
                    for part in parts_of(added(promise, asked, -1)) if part}
            known[left, asked] = all(
                any(wins(rest, added(asked, part)) for rest in left_behind(rows, left, part)) for part in more)
        return known[left, asked]

    return wins(stock, ())
