"""A desk: requests about a Book and a Shelf, line by line, and their answers."""

from onceopened.books import Book
from onceopened.errors import BadLine, BadText, Forked, NoDeed, Nothing, Regretted, Short
from onceopened.forms import form, idle
from onceopened.lots import Lot
from onceopened.numbers import forked, join, meet, numbers
from onceopened.plans import gives
from onceopened.regrets import shared
from onceopened.shelves import Shelf

_NOTHING = "-"


def _row(texts, between):
    """The texts in a row, or a sign that there are none."""
    if len(texts) == 0:
        return _NOTHING
    return between.join(texts)


def _kinds_text(kinds):
    return _row(kinds, " ")


def _openings_text(openings):
    return _row([opening.text() for opening in openings], "; ")


def _plan_text(plan):
    return _row([f"{many} x {opening.text()}" for opening, many in plan.counts()], "; ")


def _ask(shelf, lots):
    return _plan_text(shelf.serve(lots[0]))


def _arrive(shelf, lots):
    shelf.arrive(lots[0])
    return "ok"


def _undo(shelf, lots):
    shelf.undo()
    return "ok"


def _left(shelf, lots):
    return shelf.stock.text()


def _served(shelf, lots):
    return shelf.served().text()


def _arrived(shelf, lots):
    return shelf.arrived().text()


def _opened(shelf, lots):
    return _plan_text(shelf.opened())


def _often(shelf, lots):
    return str(shelf // lots[0])


def _shared(book, lots):
    return _kinds_text(shared(book))


def _forked(book, lots):
    return _kinds_text(forked(book))


def _idle(book, lots):
    return _openings_text(idle(book))


def _form(book, lots):
    return _openings_text(form(book).openings())


def _gives(book, lots):
    return "yes" if gives(book, lots[0], lots[1]) else "no"


def _numbers(book, lots):
    return numbers(book, lots[0]).text()


def _meet(book, lots):
    return meet(book, lots[0], lots[1]).text()


def _join(book, lots):
    return join(book, lots[0], lots[1]).text()


# What stands between the two Lots of a request, for those that have two; those with one Lot; those without one.
_TWO = {"gives": " > ", "meet": " & ", "join": " & "}
_ONE = ("stock", "ask", "arrive", "often", "numbers")
_ALONE = ("undo", "left", "served", "arrived", "opened", "shared", "forked", "idle", "form")

_OF_SHELF = {
    "ask": _ask, "arrive": _arrive, "undo": _undo, "left": _left, "served": _served, "arrived": _arrived,
    "opened": _opened, "often": _often,
}
_OF_BOOK = {
    "shared": _shared, "forked": _forked, "idle": _idle, "form": _form, "gives": _gives, "numbers": _numbers,
    "meet": _meet, "join": _join,
}


def _lot_texts(line):
    """The word of a request and the texts of its Lots, as many as it has; None if the word does not fit them."""
    word, blank, rest = line.partition(" ")
    if blank == "":
        return (word, []) if word in _ALONE else None
    if word in _ONE:
        return word, [rest]
    if word in _TWO:
        one, between, other = rest.partition(_TWO[word])
        return word, [one, other]
    return None


def _read_request(line):
    """The word of a request and its Lots; None if the line is no request."""
    found = _lot_texts(line)
    if found is None:
        return None
    word, texts = found
    try:
        return word, [Lot.of(text) for text in texts]
    except BadText:
        return None


def _read_requests(lines, first):
    """The requests of the lines, the first of which has this number."""
    found = []
    for at, line in enumerate(lines):
        request = _read_request(line)
        if request is None:
            raise BadLine(first + at)
        found.append(request)
    return found


class Desk:
    """Answers requests about a Book and the Shelf that was made last."""

    def __init__(self, book):
        self._book = book
        self._shelf = None

    def _done(self, word, lots):
        """The answer to a request that raises no error."""
        if word == "stock":
            self._shelf = Shelf(self._book, lots[0])
            return "ok"
        if word in _OF_BOOK:
            action = _OF_BOOK[word]
            return action(self._book, lots)
        if self._shelf is None:
            return "no stock"
        action = _OF_SHELF[word]
        return action(self._shelf, lots)

    def answer(self, word, lots):
        """The answer to a request."""
        try:
            return self._done(word, lots)
        except Short as lack:
            return f"refused Short {lack.kind} {lack.lacking}"
        except Regretted as twice:
            return f"refused Regretted {twice.kind}"
        except Forked as fork:
            return f"refused Forked {fork.kind}"
        except Nothing:
            return "refused Nothing"
        except NoDeed:
            return "refused NoDeed"


def answers(text):
    """The answers to the requests that stand behind the Book's text and an empty line."""
    lines = text.split("\n")
    book_lines = lines
    if "" in lines:
        book_lines = lines[:lines.index("")]
    book = Book.of("\n".join(book_lines))
    first = len(book_lines) + 1
    requests = _read_requests(lines[first:], first)
    desk = Desk(book)
    return [desk.answer(word, lots) for word, lots in requests]
