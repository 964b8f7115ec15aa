"""Openings, and Books of them."""

from onceopened.errors import BadLine, BadText, Hollow, Ringed
from onceopened.lots import Lot, is_kind


def _parts_of(openings):
    """For each kind that can be opened the kinds that lie in its Openings."""
    found = {}
    for opening in openings:
        for part in opening.contents.kinds():
            found.setdefault(opening.kind, []).append(part)
    return found


def _holding(parts, kind):
    """For each kind inside the given one a kind on the way to it, in whose Openings it lies."""
    found = {}
    waiting = [kind]
    while waiting:
        holder = waiting.pop()
        for part in parts.get(holder, ()):
            if part not in found:
                found[part] = holder
                waiting.append(part)
    return found


def _ring(parts):
    """A ring of kinds, or None if no kind is inside itself."""
    for kind in parts:
        holding = _holding(parts, kind)
        if kind in holding:
            ring = [holding[kind]]
            while ring[-1] != kind:
                ring.append(holding[ring[-1]])
            return tuple(ring[::-1])
    return None


def _weigh(lot, worths):
    """The sum of the worths of all pieces; a piece that is not in worths has the worth 1."""
    return sum([worths.get(kind, 1) * many for kind, many in lot.pairs()])


def _read_line(line):
    """The kind and the contents that a line of a Book's text tells, or None if it is no such line."""
    kind, _, rest = line.partition(" = ")
    if rest == "-" or not is_kind(kind):
        return None
    try:
        return kind, Lot.of(rest)
    except BadText:
        return None


class Opening:
    """Tells that one of a kind can be opened: it goes, and the contents come. It never changes."""

    def __init__(self, kind, contents):
        if len(contents) == 0:
            raise Hollow(kind)
        if kind in contents:
            raise Ringed((kind,))
        self.kind = kind
        self._pairs = contents.pairs()

    @property
    def contents(self):
        """A new Lot each time, because a Lot can be changed and an Opening cannot."""
        return Lot(self._pairs)

    def place(self):
        """What Openings are compared by; it can be the key of a dict, which an Opening cannot."""
        return (self.kind, self._pairs)

    def __eq__(self, other):
        return isinstance(other, Opening) and self.place() == other.place()

    def __lt__(self, other):
        if not isinstance(other, Opening):
            return NotImplemented
        return self.place() < other.place()

    def __le__(self, other):
        if not isinstance(other, Opening):
            return NotImplemented
        return self.place() <= other.place()

    def __gt__(self, other):
        if not isinstance(other, Opening):
            return NotImplemented
        return self.place() > other.place()

    def __ge__(self, other):
        if not isinstance(other, Opening):
            return NotImplemented
        return self.place() >= other.place()

    def text(self):
        """The kind and what comes out of it, as a line of a Book's text."""
        return f"{self.kind} = {self.contents.text()}"


class Book:
    """A set of Openings in which no kind is inside itself. It never changes."""

    def __init__(self, openings=()):
        places = sorted(set([opening.place() for opening in openings]))
        self._openings = [Opening(kind, Lot(pairs)) for kind, pairs in places]
        self._parts = _parts_of(self._openings)
        ring = _ring(self._parts)
        if ring is not None:
            raise Ringed(ring)

    @classmethod
    def of(cls, text):
        """The Book whose Openings are written line by line."""
        if text == "-":
            return cls()
        rows = []
        for number, line in enumerate(text.split("\n")):
            row = _read_line(line)
            if row is None:
                raise BadLine(number)
            rows.append(row)
        # Openings are made behind all lines, because one of them can raise Ringed.
        return cls([Opening(kind, contents) for kind, contents in rows])

    def __contains__(self, x):
        """Whether an Opening is in the Book."""
        return x in self._openings

    def __len__(self):
        """How many Openings there are."""
        return len(self._openings)

    def __eq__(self, other):
        return isinstance(other, Book) and self._openings == other._openings

    def __getitem__(self, at):
        """The ascending list of the Openings of a kind."""
        return [opening for opening in self._openings if opening.kind == at]

    def __iter__(self):
        raise TypeError("a Book is not iterated over: take its openings()")

    def openings(self):
        """The ascending list of all Openings."""
        return list(self._openings)

    def holders(self, kind):
        """The ascending list of the Openings in whose contents a kind lies."""
        return [opening for opening in self._openings if kind in opening.contents]

    def kinds(self):
        """The ascending list of the kinds of the Openings and of their contents."""
        found = list(self._parts)
        for kind in self._parts:
            found.extend(self._parts[kind])
        return sorted(set(found))

    def inside(self, kind):
        """The ascending list of the kinds inside a kind."""
        return sorted(set(_holding(self._parts, kind)))

    def inner_first(self):
        """The list of the kinds, each one behind all those that are inside it."""
        # A kind has more kinds inside it than each of these has: theirs are inside it, too, and so are they.
        ranks = sorted(set([(len(self.inside(kind)), kind) for kind in self.kinds()]))
        return [kind for _, kind in ranks]

    def __or__(self, other):
        """The Book with the Openings of both Books."""
        return Book(self._openings + other._openings)

    def __sub__(self, other):
        """The Book without the Openings of other."""
        return Book([opening for opening in self._openings if opening not in other])

    def worth(self, lot):
        """The sum of the worths of all pieces; each opening lowers it."""
        worths = {}
        for kind in self.inner_first():
            worths[kind] = 1 + max([int(_weigh(opening.contents, worths)) for opening in self[kind]], default=0)
        return _weigh(lot, worths)

    def forked_kinds(self):
        """The ascending list of the kinds that have at least two Openings."""
        rows = [opening.kind for opening in self._openings]
        return [kind for kind in sorted(set(rows)) if rows.count(kind) > 1]

    def shared_kinds(self):
        """The ascending list of the kinds that lie in at least two Openings."""
        # A part stands once in these rows for each Opening in which it lies.
        rows = [part for kind in self._parts for part in self._parts[kind]]
        return [part for part in sorted(set(rows)) if rows.count(part) > 1]

    def is_plain(self):
        """Whether each kind has at most one Opening, or no kind lies in two Openings."""
        return len(self.forked_kinds()) == 0 or len(self.shared_kinds()) == 0

    def text(self):
        """The texts of the Openings, ascending, with line feeds between."""
        if len(self) == 0:
            return "-"
        return "\n".join([opening.text() for opening in self._openings])
