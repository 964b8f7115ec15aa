"""Plans: how often each Opening is done; and whether a stock gives an ask."""

from onceopened.books import Opening
from onceopened.errors import Below, Short
from onceopened.lots import Lot


def _counted(counts):
    """The sum of the numbers for each Opening, by its place; Openings with the number 0 are left out."""
    found = {}
    for opening, many in counts:
        if many < 0:
            raise Below(opening.kind, many)
        if many > 0:
            found[opening.place()] = found.get(opening.place(), 0) + many
    return found


def _splits(many, parts):
    """All lists of so many parts, numbers from 0, that add up to many."""
    if parts == 1:
        return [[many]]
    return [[first] + rest for first in range(many + 1) for rest in _splits(many - first, parts - 1)]


def _needed_times(opening, stock, wanted):
    """How often an Opening is done so that of each kind in it there are as many as are wanted."""
    parts = opening.contents.pairs()
    # The negative of a quotient that is rounded down: this rounds up.
    return max(0, max([int(-((stock[kind] - wanted[kind]) // each)) for kind, each in parts]))


def _turned(openings, kind, asked, states):
    """The states behind a kind's turn, in each of which all its pieces but the asked ones are opened somehow."""
    found = {}
    for lot, rows in states:
        if lot[kind] >= asked:
            for split in _splits(lot[kind] - asked, len(openings)):
                more = list(zip(openings, split))
                after = Plan(more).after(lot)
                found[after.pairs()] = (after, rows + more)
    return list(found.values())


def _searched(book, stock, ask):
    """Some Plan by which the stock gives the ask, or None; with one Opening for each kind nothing is tried twice."""
    states = [(stock, [])]
    # A piece that is not asked may always be opened. Behind the turns of the kinds that it is inside of, no more
    # pieces of a kind come.
    for kind in book.inner_first()[::-1]:
        if len(book[kind]) > 0:
            states = _turned(book[kind], kind, ask[kind], states)
    for lot, rows in states:
        if ask.within(lot):
            return Plan(rows)
    return None


def _served(plan, stock, ask):
    """The Plan, if it is possible and the ask lies in the stock behind it; otherwise None."""
    try:
        plan.left(stock, ask)
    except Short:
        return None
    return plan


def _some_plan(book, stock, ask):
    """A Plan by which the stock gives the ask, or None; it may do more than is needed."""
    if len(book.shared_kinds()) == 0:
        return _served(needed(book, stock, ask), stock, ask)
    return _searched(book, stock, ask)


def _trimmed(plan, book, stock, ask):
    """The Plan without all that is not needed."""
    # An Opening done less often leaves more of its own kind alone. So, the inner kinds being first, nothing that was
    # needed once becomes needless later.
    for kind in book.inner_first():
        for opening in book[kind]:
            needless = min(int(plan[opening]), plan.left(stock, ask) // opening.contents)
            plan = plan - Plan(((opening, needless),))
    return plan


def needed(book, stock, ask):
    """The Plan that does each Opening as often as its contents are needed; the Book has no kind in two Openings."""
    wanted = ask
    rows = []
    for kind in book.inner_first():
        for opening in book[kind]:
            many = _needed_times(opening, stock, wanted)
            rows.append((opening, many))
            wanted = wanted + Lot(((kind, many),))
    return Plan(rows)


def gives(book, stock, ask):
    """Whether the stock gives the ask by the Book."""
    return _some_plan(book, stock, ask) is not None


def plan_for(book, stock, ask):
    """A Plan by which the stock gives the ask, and which does nothing that is not needed; None if there is none."""
    plan = _some_plan(book, stock, ask)
    if plan is None:
        return None
    return _trimmed(plan, book, stock, ask)


class Plan:
    """Tells how often each Opening is done. It never changes."""

    def __init__(self, counts=()):
        # Numbers of 0 are never kept, so that equal Plans have equal dicts.
        self._counts = _counted(counts)

    def __getitem__(self, at):
        """How often an Opening is done."""
        return self._counts.get(at.place(), 0)

    def __iter__(self):
        raise TypeError("a Plan is not iterated over: take its openings()")

    def __len__(self):
        """How many Openings are done at least once."""
        return len(self._counts)

    def __abs__(self):
        """How often Openings are done, all together."""
        return sum([self._counts[place] for place in self._counts])

    def __eq__(self, other):
        return isinstance(other, Plan) and self._counts == other._counts

    def openings(self):
        """The ascending list of the Openings that are done at least once."""
        return [Opening(kind, Lot(pairs)) for kind, pairs in sorted(set(self._counts))]

    def counts(self):
        """The ascending list of the pairs (opening, many) of the Openings that are done at least once."""
        return [(opening, self[opening]) for opening in self.openings()]

    def __add__(self, other):
        """Both Plans."""
        return Plan(self.counts() + other.counts())

    def __sub__(self, other):
        """Each Opening less often by what other does."""
        for opening, many in other.counts():
            if self[opening] < many:
                raise Short(opening.kind, many - self[opening])
        return Plan([(opening, many - other[opening]) for opening, many in self.counts()])

    def __mul__(self, other):
        """Each Opening so many times as often, other being a number."""
        return Plan([(opening, many * other) for opening, many in self.counts()])

    def __rmul__(self, other):
        return self * other

    def after(self, stock):
        """The Lot that the stock has become behind the Plan."""
        return self.left(stock, Lot())

    def left(self, stock, ask):
        """The Lot that is left behind the Plan without the ask; Short tells what the Plan and the ask lack together."""
        return stock + self.come() - (self.gone() + ask)

    def gone(self):
        """The Lot of all pieces that are opened."""
        return Lot([(opening.kind, many) for opening, many in self.counts()])

    def come(self):
        """The Lot of all that comes out of them."""
        rows = self.counts()
        return Lot([(kind, each * many) for opening, many in rows for kind, each in opening.contents.pairs()])

    def fits(self, book):
        """Whether all its Openings are in the Book."""
        return all([opening in book for opening in self.openings()])
