"""[4]: Lots, all but their texts."""

import itertools
import unittest

from onceopened.errors import Below, Nothing, Short
from onceopened.lots import Lot, copy_of, one_of

GREAT = 10 ** 12
BEYOND = 7 * 10 ** 40
SMALL = [(("a", a), ("b", b), ("c", c)) for a, b, c in itertools.product(range(3), range(3), (0, 5))]


class Anything:
    """Is equal to whatever is asked of it."""

    def __eq__(self, other):
        return True


class MakingTest(unittest.TestCase):
    def test_pairs_in_any_order(self):
        pairs = (("cup", 3), ("box", 1), ("tea", 2))
        for order in itertools.permutations(pairs):
            self.assertEqual(Lot(order).pairs(), (("box", 1), ("cup", 3), ("tea", 2)))

    def test_tuples_and_lists_at_any_depth(self):
        expected = (("box", 1), ("cup", 3))
        for pairs in ((("cup", 3), ("box", 1)), [("cup", 3), ("box", 1)], (["cup", 3], ["box", 1]),
                      [["cup", 3], ["box", 1]], [["cup", 3], ("box", 1)]):
            self.assertEqual(Lot(pairs).pairs(), expected)

    def test_numbers_of_a_kind_that_occurs_several_times_are_added(self):
        self.assertEqual(Lot((("a", 1), ("b", 5), ("a", 2), ("a", 0), ("a", 4))).pairs(), (("a", 7), ("b", 5)))

    def test_zero_is_the_same_as_none(self):
        lot = Lot((("a", 0), ("b", 0), ("b", 1)))
        self.assertEqual(lot, Lot((("b", 1),)))
        self.assertEqual((lot.kinds(), lot.pairs(), len(lot), abs(lot)), (["b"], (("b", 1),), 1, 1))
        self.assertNotIn("a", lot)

    def test_nothing_passed_is_the_empty_lot(self):
        for lot in (Lot(), Lot(()), Lot([]), Lot((("a", 0),))):
            self.assertEqual((lot.kinds(), lot.pairs(), len(lot), abs(lot), lot["a"]), ([], (), 0, 0, 0))
            self.assertEqual(lot, Lot())

    def test_below_of_the_first_such_pair(self):
        for pairs, kind, many in (
            ((("a", -1),), "a", -1),
            ((("z", 1), ("c", -2), ("a", -3), ("c", -9)), "c", -2),
            ([["b", 5], ["b", -4], ["a", -1]], "b", -4),
            ((("b", -BEYOND),), "b", -BEYOND),
        ):
            with self.assertRaises(Below) as caught:
                Lot(pairs)
            self.assertEqual((caught.exception.kind, caught.exception.many), (kind, many))

    def test_the_argument_is_neither_changed_nor_kept(self):
        pairs = [["b", 2], ["a", 1], ["b", 0]]
        lot = Lot(pairs)
        self.assertEqual(pairs, [["b", 2], ["a", 1], ["b", 0]])
        pairs[0][1] = 9
        pairs.append(["c", 1])
        self.assertEqual(lot.pairs(), (("a", 1), ("b", 2)))

    def test_two_lots_of_the_same_pairs_are_two(self):
        one, other = Lot((("a", 1),)), Lot((("a", 1),))
        one["a"] = 5
        self.assertEqual((one["a"], other["a"]), (5, 1))


class AskingTest(unittest.TestCase):
    def test_item_in_len_and_abs(self):
        lot = Lot((("cup", 3), ("box", GREAT)))
        self.assertEqual((lot["cup"], lot["box"], lot["tea"]), (3, GREAT, 0))
        self.assertEqual(("cup" in lot, "box" in lot, "tea" in lot, "cu" in lot), (True, True, False, False))
        self.assertEqual((len(lot), abs(lot)), (2, GREAT + 3))

    def test_asking_for_a_kind_does_not_add_it(self):
        lot = Lot((("a", 1),))
        self.assertEqual(lot["b"], 0)
        self.assertEqual((lot.kinds(), len(lot), "b" in lot), (["a"], 1, False))

    def test_kinds_and_pairs_ascend_as_strings_do(self):
        lot = Lot((("b", 2), ("ab", 3), ("a", 10), ("aab", 1), ("aa", 4)))
        self.assertEqual(lot.kinds(), ["a", "aa", "aab", "ab", "b"])
        self.assertEqual(lot.pairs(), (("a", 10), ("aa", 4), ("aab", 1), ("ab", 3), ("b", 2)))
        self.assertIsInstance(lot.kinds(), list)
        self.assertIsInstance(lot.pairs(), tuple)
        self.assertTrue(all(isinstance(pair, tuple) for pair in lot.pairs()))

    def test_kinds_is_a_new_list_each_time(self):
        lot = Lot((("a", 1), ("b", 1)))
        lot.kinds().clear()
        self.assertEqual(lot.kinds(), ["a", "b"])

    def test_equal_if_each_kind_has_the_same_number(self):
        for one, other in itertools.product(SMALL, SMALL):
            self.assertEqual(Lot(one) == Lot(other), one == other)
            self.assertEqual(Lot(one) != Lot(other), one != other)

    def test_equal_to_nothing_else(self):
        lot = Lot((("a", 1),))
        for other in ((("a", 1),), [("a", 1)], {"a": 1}, "1 a", 1, None, Anything()):
            self.assertIs(lot == other, False)
            self.assertIs(lot != other, True)
        for other in ((), [], {}, 0, "", "-", None, False):
            self.assertFalse(Lot() == other)

    def test_within(self):
        for one, other in itertools.product(SMALL, SMALL):
            lies = all(many <= dict(other)[kind] for kind, many in one)
            self.assertIs(Lot(one).within(Lot(other)), lies)
        lot = Lot((("a", 2),))
        self.assertTrue(lot.within(lot))
        self.assertTrue(Lot().within(lot))
        self.assertTrue(Lot().within(Lot()))
        self.assertFalse(lot.within(Lot()))


class SettingTest(unittest.TestCase):
    def test_set_more_less_and_new(self):
        lot = Lot((("a", 2),))
        lot["a"] = 5
        lot["b"] = BEYOND
        self.assertEqual(lot.pairs(), (("a", 5), ("b", BEYOND)))
        lot["a"] = 1
        self.assertEqual(lot["a"], 1)

    def test_set_to_zero(self):
        lot = Lot((("a", 2), ("b", 1)))
        lot["a"] = 0
        lot["c"] = 0
        self.assertEqual(lot, Lot((("b", 1),)))
        self.assertEqual((lot.kinds(), len(lot), "a" in lot, "c" in lot), (["b"], 1, False, False))

    def test_below_changes_nothing(self):
        lot = Lot((("a", 2),))
        for kind, many in (("a", -1), ("a", -4), ("b", -1), ("b", -BEYOND)):
            with self.assertRaises(Below) as caught:
                lot[kind] = many
            self.assertEqual((caught.exception.kind, caught.exception.many), (kind, many))
        self.assertEqual(lot.pairs(), (("a", 2),))

    def test_changes_the_lot_under_each_of_its_names(self):
        lot = same = Lot((("a", 2),))
        lot["a"] = 3
        self.assertEqual(same["a"], 3)


class OperatorsTest(unittest.TestCase):
    def check(self, made, expected, *operands):
        """Whether made is as expected, and new: a change of it changes none of the operands."""
        self.assertEqual(made.pairs(), tuple((kind, many) for kind, many in sorted(expected.items()) if many))
        kept = [operand.pairs() for operand in operands]
        for kind in ("a", "b", "c", "d"):
            made[kind] = made[kind] + 1
        self.assertEqual([operand.pairs() for operand in operands], kept)

    def test_each_operator_against_plain_numbers(self):
        for one, other in itertools.product(SMALL, SMALL):
            left, right = dict(one), dict(other)
            lot, second = Lot(one), Lot(other)
            self.check(lot + second, {kind: left[kind] + right[kind] for kind in "abc"}, lot, second)
            self.check(lot & second, {kind: min(left[kind], right[kind]) for kind in "abc"}, lot, second)
            self.check(lot | second, {kind: max(left[kind], right[kind]) for kind in "abc"}, lot, second)
            if second.within(lot):
                self.check(lot - second, {kind: left[kind] - right[kind] for kind in "abc"}, lot, second)
            if any(right.values()):
                often = max(n for n in range(9) if all(right[kind] * n <= left[kind] for kind in "abc"))
                self.assertEqual(lot // second, often)
                self.check(lot % second, {kind: left[kind] - often * right[kind] for kind in "abc"}, lot, second)
            self.assertEqual((lot, second), (Lot(one), Lot(other)))

    def test_times_from_both_sides(self):
        for pairs, times in itertools.product(SMALL, (0, 1, 2, 10 ** 12)):
            lot = Lot(pairs)
            expected = {kind: many * times for kind, many in pairs}
            self.check(lot * times, expected, lot)
            self.check(times * lot, expected, lot)
            self.assertEqual(lot, Lot(pairs))

    def test_with_an_empty_lot(self):
        lot, empty = Lot((("a", 2), ("b", 1))), Lot()
        same = {"a": 2, "b": 1}
        self.check(lot + empty, same, lot, empty)
        self.check(empty + lot, same, lot, empty)
        self.check(lot - empty, same, lot, empty)
        self.check(lot | empty, same, lot, empty)
        self.check(empty | lot, same, lot, empty)
        self.check(lot & empty, {}, lot, empty)
        self.check(empty & lot, {}, lot, empty)
        self.check(empty % lot, {}, lot, empty)
        self.check(empty * 3, {}, empty)
        self.check(3 * empty, {}, empty)
        self.assertEqual(empty // lot, 0)

    def test_with_the_same_lot_on_both_sides(self):
        lot = Lot((("a", 2), ("b", 1)))
        self.check(lot + lot, {"a": 4, "b": 2}, lot)
        self.check(lot - lot, {}, lot)
        self.check(lot & lot, {"a": 2, "b": 1}, lot)
        self.check(lot | lot, {"a": 2, "b": 1}, lot)
        self.check(lot % lot, {}, lot)
        self.assertEqual(lot // lot, 1)
        self.assertEqual(lot.pairs(), (("a", 2), ("b", 1)))

    def test_the_same_empty_lot_on_both_sides(self):
        empty = Lot()
        for made in (empty + empty, empty - empty, empty & empty, empty | empty):
            self.check(made, {}, empty)

    def test_short_with_the_least_kind_and_the_difference(self):
        lot = Lot((("b", 2), ("c", 1), ("d", 9)))
        for other, kind, lacking in (
            ((("d", 9), ("c", 4), ("b", 5)), "b", 3),
            ((("d", 10), ("c", 4), ("b", 2)), "c", 3),
            ((("e", 7), ("d", 1)), "e", 7),
            ((("z", 1), ("a", 8), ("b", 5)), "a", 8),
            ((("d", BEYOND),), "d", BEYOND - 9),
        ):
            taken = Lot(other)
            with self.assertRaises(Short) as caught:
                lot - taken
            self.assertEqual((caught.exception.kind, caught.exception.lacking), (kind, lacking))
            self.assertEqual((lot.pairs(), taken), ((("b", 2), ("c", 1), ("d", 9)), Lot(other)))
        with self.assertRaises(Short):
            Lot() - Lot((("a", 1),))

    def test_nothing(self):
        for lot in (Lot(), Lot((("a", 2),))):
            before = lot.pairs()
            with self.assertRaises(Nothing):
                lot // Lot()
            with self.assertRaises(Nothing):
                lot % Lot((("a", 0),))
            with self.assertRaises(ZeroDivisionError):
                lot // Lot()
            self.assertEqual(lot.pairs(), before)
        empty = Lot()
        with self.assertRaises(Nothing):
            empty // empty
        with self.assertRaises(Nothing):
            empty % empty

    def test_great_numbers(self):
        lot, other = Lot((("a", GREAT), ("b", BEYOND))), Lot((("a", 1), ("b", 3)))
        self.assertEqual((lot + lot).pairs(), (("a", 2 * GREAT), ("b", 2 * BEYOND)))
        self.assertEqual((lot - other).pairs(), (("a", GREAT - 1), ("b", BEYOND - 3)))
        self.assertEqual((lot * GREAT).pairs(), (("a", GREAT * GREAT), ("b", BEYOND * GREAT)))
        self.assertEqual((BEYOND * lot)["b"], BEYOND * BEYOND)
        self.assertEqual(lot // other, GREAT)
        self.assertEqual((lot % other).pairs(), (("b", BEYOND - 3 * GREAT),))
        self.assertEqual(Lot((("b", BEYOND),)) // Lot((("b", 3),)), BEYOND // 3)
        self.assertEqual((lot & other, (lot | other)), (other, lot))
        self.assertEqual(abs(lot), GREAT + BEYOND)
        self.assertTrue(other.within(lot))


class InPlaceTest(unittest.TestCase):
    def test_the_lot_itself_is_changed(self):
        lot = same = Lot((("a", 2),))
        other = Lot((("a", 1), ("b", 4)))
        lot += other
        self.assertIs(lot, same)
        self.assertEqual((same.pairs(), other.pairs()), ((("a", 3), ("b", 4)), (("a", 1), ("b", 4))))
        lot -= Lot((("a", 3), ("b", 1)))
        self.assertIs(lot, same)
        self.assertEqual(same.pairs(), (("b", 3),))
        self.assertEqual((len(lot), "a" in lot), (1, False))

    def test_other_is_not_kept(self):
        lot, other = Lot(), Lot((("a", 1),))
        lot += other
        lot["a"] = 5
        self.assertEqual(other["a"], 1)
        other["a"] = 7
        self.assertEqual(lot["a"], 5)
        lot -= Lot()
        self.assertEqual(lot["a"], 5)

    def test_the_same_lot_on_both_sides(self):
        lot = same = Lot((("a", 2), ("b", 1)))
        lot += lot
        self.assertEqual(same.pairs(), (("a", 4), ("b", 2)))
        lot += same
        self.assertEqual(same.pairs(), (("a", 8), ("b", 4)))
        lot -= same
        self.assertIs(lot, same)
        self.assertEqual((same.pairs(), len(same)), ((), 0))

    def test_with_an_empty_lot(self):
        lot = same = Lot((("a", 2),))
        lot += Lot()
        lot -= Lot()
        self.assertEqual(same.pairs(), (("a", 2),))

    def test_a_lot_in_a_list_is_changed_there(self):
        lot = Lot((("a", 2),))
        rows = [lot]
        rows[0] += Lot((("b", 1),))
        self.assertEqual(lot.pairs(), (("a", 2), ("b", 1)))

    def test_short_changes_nothing(self):
        lot = same = Lot((("a", 5), ("b", 1), ("c", 1)))
        other = Lot((("a", 1), ("c", 4), ("b", 3)))
        with self.assertRaises(Short) as caught:
            lot -= other
        self.assertEqual((caught.exception.kind, caught.exception.lacking), ("b", 2))
        self.assertIs(lot, same)
        self.assertEqual(same.pairs(), (("a", 5), ("b", 1), ("c", 1)))
        self.assertEqual(other.pairs(), (("a", 1), ("b", 3), ("c", 4)))

    def test_great_numbers(self):
        lot = Lot((("a", GREAT),))
        lot += Lot((("a", BEYOND),))
        self.assertEqual(lot["a"], GREAT + BEYOND)
        lot -= Lot((("a", BEYOND),))
        self.assertEqual(lot["a"], GREAT)


class NewLotsTest(unittest.TestCase):
    def test_a_single_piece(self):
        one_of("cup")["cup"] = 5
        self.assertEqual(one_of("cup").pairs(), (("cup", 1),))

    def test_a_copy(self):
        lot = Lot((("a", 5), ("b", BEYOND)))
        copy = copy_of(lot)
        self.assertEqual(copy, lot)
        copy += one_of("b")
        lot["a"] = 1
        self.assertEqual((copy.pairs(), lot.pairs()), ((("a", 5), ("b", BEYOND + 1)), (("a", 1), ("b", BEYOND))))
