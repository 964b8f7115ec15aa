"""The examples of the document, as it shows them."""

import unittest

from onceopened.books import Book, Opening
from onceopened.desk import answers
from onceopened.errors import BadText, Regretted, Short, Uneven
from onceopened.forms import alike, covers, form, idle, parted
from onceopened.lattices import is_tree, skew, torn
from onceopened.lots import Lot
from onceopened.numbers import forked, join, lack, lot_of, meet, numbers, times
from onceopened.plans import Plan, gives, plan_for
from onceopened.prices import cheapest, need, price
from onceopened.regrets import Hand, Regret, asked_only, is_regret, regret, shared
from onceopened.remains import becomes, leftovers
from onceopened.retold import doubt, retold
from onceopened.shelves import Shelf, least, leftover
from onceopened.stocks import holds, unsafe


class ExamplesTest(unittest.TestCase):
    def test_lots(self):
        lot = Lot((("cup", 3), ("box", 1), ("cup", 1)))
        self.assertEqual(
            (lot.pairs(), lot["cup"], lot["tea"], "tea" in lot, len(lot), abs(lot), lot.text()),
            ((("box", 1), ("cup", 4)), 4, 0, False, 2, 5, "1 box 4 cup"),
        )
        two, other = Lot.of("2 cup"), Lot.of("2 cup 9 tea")
        self.assertEqual(
            ((lot & other).text(), (lot | other).text(), lot // two, (lot % two).text(), (3 * two).text(),
             two.within(lot)),
            ("2 cup", "1 box 4 cup 9 tea", 2, "1 box", "6 cup", True),
        )
        with self.assertRaises(Short) as caught:
            lot - Lot.of("2 box 9 cup")
        self.assertEqual((caught.exception.kind, caught.exception.lacking), ("box", 1))
        lot -= two
        lot["box"] = 0
        self.assertEqual((lot.text(), Lot().text(), Lot.of("-") == Lot()), ("2 cup", "-", True))
        with self.assertRaises(BadText):
            Lot.of("2 cup 1 box")

    def test_books(self):
        box = Opening("box", Lot((("pair", 3),)))
        pair = Opening("pair", Lot.of("2 cup"))
        book = Book((pair, box, pair))
        self.assertEqual(
            (len(book), book.kinds(), book.inside("box"), book.text(), book.worth(Lot.of("1 box 1 cup")),
             book.is_plain()),
            (2, ["box", "cup", "pair"], ["cup", "pair"], "box = 3 pair\npair = 2 cup", 11, True),
        )
        self.assertEqual(
            ((Book((box,)) | Book((pair,))) == book, len(book - Book((box,))), pair in book,
             book.holders("cup") == [pair], box < pair, box.contents.text()),
            (True, 1, True, True, True, "3 pair"),
        )

    def test_plans(self):
        box, pair = Opening("box", Lot.of("3 pair")), Opening("pair", Lot.of("2 cup"))
        book, stock = Book((box, pair)), Lot.of("2 box 1 cup")
        plan = plan_for(book, stock, Lot.of("8 cup"))
        self.assertEqual(
            (plan[box], plan[pair], len(plan), abs(plan), plan.after(stock).text(),
             (plan - Plan(((pair, 1),))).after(stock).text()),
            (2, 4, 2, 6, "9 cup 2 pair", "7 cup 3 pair"),
        )
        self.assertEqual(
            (gives(book, stock, Lot.of("13 cup")), gives(book, stock, Lot.of("1 box 8 cup")),
             plan_for(book, stock, Lot.of("14 cup"))),
            (True, False, None),
        )
        with self.assertRaises(Short) as caught:
            Plan(((pair, 4), (box, 1))).after(stock)
        self.assertEqual((caught.exception.kind, caught.exception.lacking), ("pair", 1))
        chest = Book.of("chest = 2 nut\nchest = 1 bolt 1 nut")
        self.assertEqual(
            (gives(chest, Lot.of("3 chest"), Lot.of("2 bolt 4 nut")),
             gives(chest, Lot.of("3 chest"), Lot.of("2 bolt 5 nut")),
             abs(plan_for(chest, Lot.of("3 chest"), Lot.of("1 nut")))),
            (True, False, 1),
        )

    def test_forms(self):
        book = Book.of("case = 2 pack\ncase = 4 cup\npack = 2 cup")
        self.assertEqual(
            ([opening.text() for opening in idle(book)], form(book).text(), alike(book, form(book))),
            (["case = 4 cup"], "case = 2 pack\npack = 2 cup", True),
        )
        one, other = Book.of("case = 1 cup 1 pack\npack = 1 cup"), Book.of("case = 2 pack\npack = 1 cup")
        self.assertEqual(
            (covers(other, one), covers(one, other), parted(one, other).text()), (True, False, "case = 2 pack"))

    def test_regrets(self):
        book, start = Book.of("case = 1 cup 1 pack\npack = 2 cup"), Lot.of("1 case 1 pack")
        self.assertEqual(
            (shared(book), is_regret(book, start, Lot.of("1 cup"), Lot.of("1 case"), Lot.of("2 pack")),
             is_regret(book, start, Lot.of("1 cup"), Lot.of("1 pack"), Lot.of("1 case 1 cup"))),
            (["cup"], True, False),
        )
        found = Regret(book, Lot.of("1 case 1 pack"), Lot.of("1 cup"), Lot.of("1 case"), Lot.of("2 pack"))
        self.assertEqual(
            ([plan.after(found.stock).text() for plan in found.plans()],
             [lot.text() for lot in found.rows(1, "hat")[1]], len(found.beat(Hand(book), Lot()))),
            (["1 case 2 cup", "1 cup 2 pack"], ["1 cup", "1 hat", "2 pack"], 2),
        )
        few = Book.of("four = 2 two\nfour = 4 one\ntwo = 2 one")
        boxes = Book.of("box = 1 case 1 hat\ncase = 1 cup 1 pack\npack = 2 cup")
        self.assertEqual(
            (shared(few), regret(few) is None, asked_only(boxes, ["box", "cup", "pack"]).text(),
             asked_only(book, ["case", "cup"]).text()),
            ([], True, "box = 1 cup 1 pack\npack = 2 cup", "case = 3 cup"),
        )

    def test_shelves(self):
        book = Book.of("box = 3 pair\npair = 2 cup")
        plan = least(book, Lot.of("1 box 1 cup"), Lot.of("3 cup 1 pair"))
        self.assertEqual(
            ([(opening.text(), plan[opening]) for opening in plan.openings()],
             leftover(book, Lot.of("1 box 1 cup"), Lot.of("3 cup 1 pair")).text()),
            ([("box = 3 pair", 1), ("pair = 2 cup", 1)], "1 pair"),
        )
        self.assertEqual(
            leftover(Book.of("four = 2 two\nfour = 3 one\ntwo = 2 one"), Lot.of("1 four"), Lot.of("3 one")).text(),
            "1 one",
        )
        shelf = Shelf(book, Lot.of("2 box"))
        shelf -= Lot.of("1 cup")
        self.assertEqual(
            (shelf.stock.text(), Lot.of("1 box 2 pair") in shelf, Lot.of("1 box 3 pair") in shelf,
             shelf // Lot.of("1 cup")),
            ("1 box 1 cup 2 pair", True, False, 11),
        )
        shelf += Lot.of("1 pair")
        shelf -= Lot.of("1 box 3 pair")
        self.assertEqual(
            (shelf.stock.text(), shelf.served().text(), shelf.arrived().text(), abs(shelf.opened())),
            ("1 cup", "1 box 1 cup 3 pair", "1 pair", 2),
        )
        shelf.undo()
        shelf.undo()
        self.assertEqual(
            (shelf.stock.text(), shelf.served().text(), shelf.arrived().text()), ("1 box 1 cup 2 pair", "1 cup", "-"))
        with self.assertRaises(Short) as caught:
            least(book, Lot.of("2 box"), Lot.of("13 cup"))
        self.assertEqual((caught.exception.kind, caught.exception.lacking), ("box", 1))
        gifts = Book.of("gift = 2 cup 1 tea\nsix = 6 cup")
        for call in (lambda: least(gifts, Lot(), Lot()), lambda: leftover(gifts, Lot(), Lot()),
                     lambda: Shelf(gifts, Lot())):
            with self.assertRaises(Regretted) as refused:
                call()
            self.assertEqual(refused.exception.kind, "cup")

    def test_lattices(self):
        rows = Book.of("y = 1 a 2 k\nz = 3 k\nk = 2 m")
        self.assertEqual(
            ([lot.text() for lot in torn(Book.of("y = 1 p\ny = 1 q"))], torn(rows), is_tree(rows),
             skew(Book.of("y = 2 p"))),
            (["1 y", "1 p 1 q", "1 p", "1 q"], None, False, None),
        )
        top, left, right = skew(rows)
        self.assertFalse(
            meet(rows, top, join(rows, left, right)) == join(rows, meet(rows, top, left), meet(rows, top, right)))

    def test_numbers(self):
        rows = Book.of("y = 1 a 2 k\nz = 3 k\nk = 2 m")
        self.assertEqual(
            (numbers(rows, Lot.of("1 y 1 z")).text(), lot_of(rows, Lot.of("1 a 5 k 12 m 1 y 1 z")).text(),
             lack(rows, Lot.of("1 y 1 z"), Lot.of("2 k 3 m 1 z"))),
            ("1 a 5 k 10 m 1 y 1 z", "2 m 1 y 1 z", ("m", 10, 13)),
        )
        self.assertEqual(
            (meet(rows, Lot.of("1 y 1 z"), Lot.of("4 k 1 y")).text(),
             join(rows, Lot.of("1 y 1 z"), Lot.of("4 k 1 y")).text(),
             times(rows, Lot.of("2 y 1 z"), Lot.of("1 k 1 m"))),
            ("3 k 1 y", "1 k 1 y 1 z", 4),
        )
        with self.assertRaises(Uneven) as caught:
            lot_of(rows, Lot.of("2 k 4 m 1 y"))
        self.assertEqual(caught.exception.kind, "a")
        self.assertEqual(
            (forked(Book.of("y = 2 x\ny = 4 p\nx = 2 p")), forked(Book.of("y = 1 p\ny = 1 q"))), ([], ["y"]))

    def test_remains(self):
        book, stock = Book.of("case = 1 cup 1 pack\npack = 1 cup 1 lid"), Lot.of("1 case 1 pack")
        self.assertEqual(
            ([lot.text() for lot in becomes(book, Lot.of("1 case"))],
             [lot.text() for lot in leftovers(book, stock, Lot.of("1 cup"))]),
            (["1 case", "1 cup 1 pack", "2 cup 1 lid"], ["1 case 1 lid", "2 pack"]),
        )
        deep = Book.of("w = 1 y 1 z\nw = 1 v\nv = 1 q 1 x\nq = 1 t 1 z\nq = 1 u 1 y\ny = 1 t 1 x\nz = 1 u 1 x")
        self.assertEqual(
            ([lot.text() for lot in leftovers(deep, Lot.of("1 y 1 z"), Lot.of("1 x"))],
             [lot.text() for lot in leftovers(deep, Lot.of("1 w"), Lot.of("1 x"))]),
            (["1 t 1 z", "1 u 1 y"], ["1 q"]),
        )

    def test_prices(self):
        plain, coins = Book.of("box = 3 pair 2 tag\npair = 2 cup"), {"box": 9, "cup": 2, "pair": 3, "tag": 2}
        self.assertEqual(
            (cheapest(plain, Lot(), Lot.of("7 cup 2 tag"), coins).text(),
             price(Lot.of("1 cup 3 pair 2 tag"), {"cup": 2, "pair": 3, "tag": 2})),
            ("1 box 1 cup", 15),
        )
        customers = [[Lot.of("1 box"), Lot.of("7 cup")], [Lot.of("2 pair")]]
        self.assertEqual(need(plain, customers).text(), "1 box 1 cup 2 pair")

    def test_retold(self):
        first, second = Opening("box", Lot.of("3 pair")), Opening("pair", Lot.of("2 cup"))
        book = Book((first, second))
        plan = retold(book, Lot.of("2 box"), Lot.of("3 cup 1 pair"), Lot.of("1 box 1 cup"))
        self.assertEqual((plan[first], plan[second], doubt(book)), (1, 2, None))
        self.assertEqual(
            (doubt(Book.of("y = 1 p\ny = 1 q\nz = 1 p\nz = 1 q"))[0].text(),
             doubt(Book.of("y = 2 x\ny = 12 p\nx = 6 p"))[0].text()),
            ("1 y 1 z", "1 y"),
        )

    def test_stocks(self):
        book, stock = Book.of("case = 1 cup 1 pack\npack = 1 cup 1 lid"), Lot.of("1 case 1 pack")
        self.assertEqual(
            (unsafe(book, stock) is None, unsafe(book, Lot.of("2 case")) is None,
             unsafe(book, Lot.of("1 case 2 cup")) is None),
            (False, False, True),
        )
        one, other = Lot.of("1 case 1 cup"), Lot.of("1 cup 2 pack")
        self.assertEqual(
            (holds(book, stock, [one]), holds(book, stock, [other]), holds(book, stock, [one, other])),
            (True, True, False),
        )
        deep = Book.of("w = 1 y 1 z\nw = 1 v\nv = 1 q 1 x\nq = 1 t 1 z\nq = 1 u 1 y\ny = 1 t 1 x\nz = 1 u 1 x")
        self.assertEqual(
            (unsafe(deep, Lot.of("1 y 1 z")) is None, unsafe(deep, Lot.of("1 w")) is None), (False, True))

    def test_desk(self):
        self.assertEqual(
            answers("box = 3 pair\npair = 2 cup\n\nleft\nstock 2 box\nask 1 cup\nleft\noften 3 cup\nask 2 box\nask -\n"
                    "arrive 1 box\nask 2 box\nopened\nundo\nleft\noften -\nstock -\nundo"),
            ["no stock", "ok", "1 x box = 3 pair; 1 x pair = 2 cup", "1 box 1 cup 2 pair", "3", "refused Short box 1",
             "-", "ok", "-", "1 x box = 3 pair; 1 x pair = 2 cup", "ok", "2 box 1 cup 2 pair", "refused Nothing", "ok",
             "refused NoDeed"],
        )
        self.assertEqual(
            answers("gift = 2 cup 1 tea\nrack = 4 cup\n\nstock 1 gift 1 rack\nshared\nforked\nidle\nform\n"
                    "numbers 1 gift 1 rack\ngives 1 gift 1 rack > 6 cup\n"
                    "gives 1 gift 1 rack > 1 cup 1 gift 1 rack\nask 1 cup"),
            ["refused Regretted cup", "cup", "-", "-", "gift = 2 cup 1 tea; rack = 4 cup", "6 cup 1 gift 1 rack 1 tea",
             "yes", "no", "no stock"],
        )
