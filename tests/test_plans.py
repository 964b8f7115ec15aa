"""[6]: Plans, all but what a stock gives."""

import itertools
import unittest

from onceopened.books import Book, Opening
from onceopened.errors import Below, Short
from onceopened.lots import Lot
from onceopened.plans import Plan

GREAT = 10 ** 12


def opening(kind, contents):
    return Opening(kind, Lot.of(contents))


BOX = opening("box", "3 pair")
SET = opening("box", "1 cup 1 tea")
PAIR = opening("pair", "2 cup")
# In their ascending order.
ROWS = (SET, BOX, PAIR)
SMALL = list(itertools.product(range(3), range(3), (0, 5)))


def plan_of(numbers):
    return Plan(list(zip(ROWS, numbers)))


class Anything:
    """Is equal to whatever is asked of it."""

    def __eq__(self, other):
        return True


class MakingTest(unittest.TestCase):
    def told(self, plan):
        return ([plan[row] for row in ROWS], plan.openings(), len(plan), abs(plan))

    def test_counts_in_any_order(self):
        for order in itertools.permutations(((BOX, 3), (PAIR, 1), (SET, 2))):
            self.assertEqual(self.told(Plan(order)), ([2, 3, 1], [SET, BOX, PAIR], 3, 6))

    def test_numbers_of_an_opening_that_occurs_several_times_are_added(self):
        plan = Plan(((BOX, 1), (PAIR, 5), (opening("box", "3 pair"), 2), (BOX, 0), (BOX, 4)))
        self.assertEqual(self.told(plan), ([0, 7, 5], [BOX, PAIR], 2, 12))

    def test_zero_is_the_same_as_none(self):
        plan = Plan(((BOX, 0), (PAIR, 0), (PAIR, 1)))
        self.assertEqual(self.told(plan), ([0, 0, 1], [PAIR], 1, 1))
        self.assertEqual(plan, Plan(((PAIR, 1),)))

    def test_nothing_passed_is_the_empty_plan(self):
        for plan in (Plan(), Plan(()), Plan([]), Plan(((BOX, 0),))):
            self.assertEqual(self.told(plan), ([0, 0, 0], [], 0, 0))
            self.assertEqual(plan, Plan())

    def test_tuples_and_lists_at_any_depth(self):
        for counts in (((BOX, 1), (PAIR, 3)), [(BOX, 1), (PAIR, 3)], ([BOX, 1], [PAIR, 3]), [[BOX, 1], (PAIR, 3)]):
            self.assertEqual(self.told(Plan(counts)), ([0, 1, 3], [BOX, PAIR], 2, 4))

    def test_an_equal_opening_asks_for_the_same_number(self):
        plan = Plan(((BOX, 4),))
        self.assertEqual(plan[opening("box", "3 pair")], 4)
        for other in (opening("box", "4 pair"), opening("box", "1 cup 3 pair"), opening("crate", "3 pair")):
            self.assertEqual(plan[other], 0)

    def test_openings_that_are_in_no_book_together(self):
        plan = Plan(((opening("a", "1 b"), 2), (opening("b", "1 a"), 1)))
        self.assertEqual([row.text() for row in plan.openings()], ["a = 1 b", "b = 1 a"])
        self.assertEqual(plan.after(Lot.of("2 a")).text(), "1 a 1 b")

    def test_openings_ascend_as_openings_do(self):
        rows = [opening("a", "9 b"), opening("a", "10 b"), opening("a", "10 b 1 c"), opening("aa", "1 b"),
                opening("b", "1 a")]
        for order in itertools.permutations(rows):
            self.assertEqual(Plan([(row, 1) for row in order]).openings(), rows)

    def test_below_of_the_first_such_pair(self):
        for counts, kind, many in (
            (((BOX, -1),), "box", -1),
            (((PAIR, 1), (PAIR, -2), (BOX, -3), (PAIR, -9)), "pair", -2),
            ([[SET, 5], [SET, -4], [PAIR, -1]], "box", -4),
            (((PAIR, -GREAT),), "pair", -GREAT),
        ):
            with self.assertRaises(Below) as caught:
                Plan(counts)
            self.assertEqual((caught.exception.kind, caught.exception.many), (kind, many))
            with self.assertRaises(ValueError):
                Plan(counts)

    def test_the_argument_is_neither_changed_nor_kept(self):
        counts = [[PAIR, 2], [BOX, 1], [PAIR, 0]]
        plan = Plan(counts)
        self.assertEqual(counts, [[PAIR, 2], [BOX, 1], [PAIR, 0]])
        counts[0][1] = 9
        counts.append([SET, 1])
        self.assertEqual(self.told(plan), ([0, 1, 2], [BOX, PAIR], 2, 3))

    def test_what_is_returned_is_new(self):
        contents = Lot.of("3 pair")
        plan = Plan(((Opening("box", contents), 1),))
        contents["pair"] = 7
        plan.openings().clear()
        plan.openings()[0].contents["pair"] = 9
        self.assertEqual(self.told(plan), ([0, 1, 0], [BOX], 1, 1))
        self.assertEqual(plan.openings()[0].text(), "box = 3 pair")
        self.assertIsInstance(plan.openings(), list)


class EqualTest(unittest.TestCase):
    def test_equal_if_each_opening_is_done_equally_often(self):
        for one, other in itertools.product(SMALL, SMALL):
            self.assertIs(plan_of(one) == plan_of(other), one == other)
            self.assertIs(plan_of(one) != plan_of(other), one != other)

    def test_equal_to_nothing_else(self):
        plan = Plan(((BOX, 1),))
        for other in ([(BOX, 1)], ((BOX, 1),), BOX, Book((BOX,)), Lot.of("1 box"), 1, None, Anything()):
            self.assertIs(plan == other, False)
            self.assertIs(plan != other, True)
        for other in ([], (), {}, 0, "-", None, Lot(), Book()):
            self.assertFalse(Plan() == other)


class OperatorsTest(unittest.TestCase):
    def check(self, made, numbers):
        self.assertIsInstance(made, Plan)
        self.assertEqual([made[row] for row in ROWS], list(numbers))
        self.assertEqual(made.openings(), [row for row, many in zip(ROWS, numbers) if many])

    def test_each_operator_against_plain_numbers(self):
        for left, right in itertools.product(SMALL, SMALL):
            one, other = plan_of(left), plan_of(right)
            self.check(one + other, [many + more for many, more in zip(left, right)])
            lacking = [(row.kind, more - many) for row, many, more in zip(ROWS, left, right) if more > many]
            if lacking:
                with self.assertRaises(Short) as caught:
                    one - other
                self.assertEqual((caught.exception.kind, caught.exception.lacking), lacking[0])
            else:
                self.check(one - other, [many - more for many, more in zip(left, right)])
            self.check(one, left)
            self.check(other, right)

    def test_times_from_both_sides(self):
        for numbers, often in itertools.product(SMALL, (0, 1, 2, GREAT)):
            plan = plan_of(numbers)
            self.check(plan * often, [many * often for many in numbers])
            self.check(often * plan, [many * often for many in numbers])
            self.check(plan, numbers)

    def test_short_is_about_the_least_opening_and_not_about_kinds_together(self):
        # There are enough Openings of boxes in all, but not of this one.
        with self.assertRaises(Short) as caught:
            Plan(((BOX, 9), (PAIR, 1))) - Plan(((SET, 4), (PAIR, 8)))
        self.assertEqual((caught.exception.kind, caught.exception.lacking), ("box", 4))
        with self.assertRaises(Short) as caught:
            Plan(((SET, 1), (BOX, 1))) - Plan(((SET, 1), (BOX, 3)))
        self.assertEqual((caught.exception.kind, caught.exception.lacking), ("box", 2))
        with self.assertRaises(Short) as caught:
            Plan() - Plan(((PAIR, GREAT),))
        self.assertEqual((caught.exception.kind, caught.exception.lacking), ("pair", GREAT))

    def test_with_the_same_and_with_an_empty_plan(self):
        plan = plan_of((2, 0, 1))
        self.check(plan + plan, (4, 0, 2))
        self.check(plan - plan, (0, 0, 0))
        self.check(plan + Plan(), (2, 0, 1))
        self.check(plan - Plan(), (2, 0, 1))
        self.check(Plan() + Plan() * 3, (0, 0, 0))

    def test_a_plan_never_changes(self):
        plan = same = plan_of((2, 0, 1))
        plan += plan
        self.check(same, (2, 0, 1))
        self.check(plan, (4, 0, 2))
        plan -= same
        plan *= 3
        self.check(same, (2, 0, 1))
        self.check(plan, (6, 0, 3))

    def test_great_numbers(self):
        plan = Plan(((BOX, GREAT), (PAIR, 7)))
        self.check(plan * GREAT + plan, (0, GREAT * GREAT + GREAT, 7 * GREAT + 7))
        self.assertEqual(abs(plan * GREAT), GREAT * GREAT + 7 * GREAT)


class AfterTest(unittest.TestCase):
    def test_kinds_go_and_contents_come(self):
        for counts, stock, after in (
            ((), "2 box", "2 box"),
            ((), "-", "-"),
            (((BOX, 1),), "2 box", "1 box 3 pair"),
            (((BOX, 2), (PAIR, 5)), "2 box 1 cup", "11 cup 1 pair"),
            (((BOX, 1), (SET, 1)), "2 box 5 hat", "1 cup 5 hat 3 pair 1 tea"),
            (((PAIR, 3), (BOX, 1)), "1 box", "6 cup"),
            (((BOX, GREAT), (PAIR, GREAT)), "1000000000000 box", "2000000000000 cup 2000000000000 pair"),
        ):
            lot = Lot.of(stock)
            self.assertEqual(Plan(counts).after(lot).text(), after)
            self.assertEqual(lot.text(), stock)

    def test_the_lot_is_new(self):
        stock = Lot.of("2 box")
        for plan in (Plan(), Plan(((BOX, 1),))):
            after = plan.after(stock)
            after["box"] = 9
            after += Lot.of("1 hat")
            self.assertEqual(stock.text(), "2 box")
        self.assertEqual(Plan(((BOX, 1),)).after(stock).text(), "1 box 3 pair")

    def test_short_of_the_least_kind_with_how_many(self):
        for counts, stock, kind, lacking in (
            (((BOX, 1),), "-", "box", 1),
            (((PAIR, 4), (BOX, 1)), "2 box 1 cup", "pair", 1),
            (((PAIR, 9), (BOX, 3)), "1 box", "box", 2),
            (((PAIR, 9), (BOX, 1)), "1 box 2 pair", "pair", 4),
            (((SET, 2), (BOX, 3)), "4 box", "box", 1),
            (((opening("a", "1 z"), 1), (opening("b", "1 z"), 5)), "3 b", "a", 1),
            (((PAIR, GREAT * GREAT),), "1 pair", "pair", GREAT * GREAT - 1),
        ):
            lot, plan = Lot.of(stock), Plan(counts)
            with self.assertRaises(Short) as caught:
                plan.after(lot)
            self.assertEqual((caught.exception.kind, caught.exception.lacking), (kind, lacking))
            self.assertEqual((lot.text(), plan), (stock, Plan(counts)))

    def test_only_the_end_matters(self):
        # No order of these Openings leads there, because neither kind is there to begin with.
        ring = Plan(((opening("a", "1 b"), 1), (opening("b", "1 a"), 1)))
        self.assertEqual(ring.after(Lot()).text(), "-")

    def test_against_single_openings_one_after_another(self):
        for numbers in SMALL:
            stock = Lot.of("3 box 2 pair")
            for row, many in ((SET, numbers[0]), (BOX, numbers[1]), (PAIR, numbers[2])):
                for _ in range(many):
                    stock = None if stock is None or row.kind not in stock else (
                        stock - Lot(((row.kind, 1),)) + row.contents)
            if stock is None:
                with self.assertRaises(Short):
                    plan_of(numbers).after(Lot.of("3 box 2 pair"))
            else:
                self.assertEqual(plan_of(numbers).after(Lot.of("3 box 2 pair")), stock)


class LeftTest(unittest.TestCase):
    def test_behind_the_plan_and_without_the_ask(self):
        stock, ask = Lot.of("2 box"), Lot.of("1 box 1 pair")
        self.assertEqual(Plan(((BOX, 1),)).left(stock, ask).text(), "2 pair")
        self.assertEqual((stock.text(), ask.text()), ("2 box", "1 box 1 pair"))

    def test_short_of_the_least_kind_that_the_plan_and_the_ask_lack_together(self):
        with self.assertRaises(Short) as caught:
            Plan(((PAIR, 1),)).left(Lot.of("1 box"), Lot.of("3 box 4 cup"))
        self.assertEqual((caught.exception.kind, caught.exception.lacking), ("box", 2))
        with self.assertRaises(Short) as caught:
            Plan(((PAIR, 1),)).left(Lot.of("1 pair"), Lot.of("2 cup 3 pair"))
        self.assertEqual((caught.exception.kind, caught.exception.lacking), ("pair", 3))

    def test_what_goes_and_what_comes(self):
        plan = Plan(((PAIR, GREAT), (BOX, 2), (SET, 3)))
        self.assertEqual(plan.gone().text(), f"5 box {GREAT} pair")
        self.assertEqual(plan.come().text(), f"{2 * GREAT + 3} cup 6 pair 3 tea")
        plan.gone()["box"] = plan.come()["cup"] = 0
        self.assertEqual((plan.gone()["box"], plan.come()["cup"]), (5, 2 * GREAT + 3))
        self.assertEqual((Plan().gone(), Plan().come()), (Lot(), Lot()))

    def test_counts_are_a_new_ascending_list(self):
        plan = Plan(((PAIR, 2), (BOX, 1)))
        plan.counts().clear()
        self.assertEqual(plan.counts(), [(BOX, 1), (PAIR, 2)])


class FitsTest(unittest.TestCase):
    def test_all_openings_are_in_the_book(self):
        for held in itertools.product((0, 1), repeat=3):
            book = Book([row for row, one in zip(ROWS, held) if one])
            for numbers in SMALL:
                fits = all(one or not many for one, many in zip(held, numbers))
                self.assertIs(plan_of(numbers).fits(book), fits)

    def test_the_same_kind_alone_is_not_enough(self):
        self.assertIs(Plan(((BOX, 1),)).fits(Book((SET, PAIR))), False)
        self.assertIs(Plan(((opening("box", "4 pair"), 1),)).fits(Book((BOX,))), False)
        self.assertIs(Plan(((opening("box", "3 pair"), 1),)).fits(Book((BOX,))), True)
        self.assertIs(Plan().fits(Book()), True)
