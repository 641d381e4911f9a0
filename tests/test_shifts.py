"""Shifts (points 2, 3, 9 and 19, and the interface of shifts.py)."""

import unittest

from checking import ErrorCase
from roundminutes import shifts
from roundminutes.errors import BadName, BadNumber
from roundminutes.shifts import Shift, earliest, latest, middle

BAD_NAMES = ["", "A", "1a", "a_", "a b", "abcdefghi", "\u00e4"]


class TellingTest(ErrorCase):

    def test_entries_that_are_zero_are_dropped(self):
        self.assertEqual(Shift({"a": 0, "b": 2, "c": 0}).moves, {"b": 2})
        self.assertEqual(Shift({"a": 0}).moves, {})
        self.assertEqual(Shift({}).moves, {})

    def test_names_in_ascending_order(self):
        shift = Shift({"b": 1, "a1": 2, "z": -3, "a": 4, "aa": 5})
        self.assertEqual(list(shift.moves.items()), [("a", 4), ("a1", 2), ("aa", 5), ("b", 1), ("z", -3)])
        self.assertEqual(list(shift), ["a", "a1", "aa", "b", "z"])

    def test_size_and_height(self):
        for moves, size, height in [({}, 0, 0), ({"a": 0}, 0, 0), ({"a": -5, "b": 3, "c": 0}, 8, 5),
                                    ({"a": 2, "b": 7}, 9, 7), ({"a": -1}, 1, 1)]:
            with self.subTest(moves):
                self.assertEqual((Shift(moves).size, Shift(moves).height), (size, height))

    def test_entries(self):
        shift = Shift({"b": -2, "a": 10 ** 9, "c": 0})
        self.assertEqual([shift[name] for name in ["a", "b", "c", "d"]], [10 ** 9, -2, 0, 0])
        self.assertEqual([shift[text] for text in ["", "A", "no name at all"]], [0, 0, 0])

    def test_length_iteration_and_membership(self):
        shift = Shift({"b": -2, "a": 1, "c": 0})
        self.assertEqual(len(shift), 2)
        self.assertEqual([first + second for first in shift for second in shift], ["aa", "ab", "ba", "bb"])
        for name, member in [("a", True), ("b", True), ("c", False), ("d", False), ("", False), ("A", False)]:
            self.assertIs(name in shift, member)
        self.assertEqual((len(Shift({})), list(Shift({})), "a" in Shift({})), (0, [], False))

    def test_equality(self):
        shift = Shift({"a": 1, "b": -2})
        for moves, equal in [({"b": -2, "a": 1}, True), ({"a": 1, "b": -2, "c": 0}, True), ({"a": 1}, False),
                             ({"a": 1, "b": 2}, False), ({"a": 1, "c": -2}, False), ({}, False)]:
            with self.subTest(moves):
                self.assertIs(shift == Shift(moves), equal)
                self.assertIs(shift != Shift(moves), not equal)
        self.assertIs(Shift({}) == Shift({"a": 0}), True)
        for other in [None, 1, "a", {"a": 1, "b": -2}, ["a"]]:
            self.assertIs(shift == other, False)

    def test_first_bad_name(self):
        for name in BAD_NAMES:
            self.assert_error(BadName, [name], Shift, {name: 1})
            self.assert_error(BadName, [name], Shift, {name: 0})
            self.assert_error(BadName, [name], Shift, {"b": 1, name: 0, "a": 1, "B": 1})
        self.assert_error(BadName, ["Z"], Shift, {"z": 1, "Z": 0, "A": 1})

    def test_everything_is_defined_where_it_is_listed(self):
        for name in ["__init__", "moves", "size", "height", "__getitem__", "__len__", "__iter__", "__contains__",
                     "__eq__", "__add__", "__sub__", "__neg__", "__mul__", "__rmul__", "__abs__", "__or__", "__and__",
                     "__floordiv__", "together"]:
            with self.subTest(name):
                self.assertIn(name, vars(Shift))
        for thing in [Shift, latest, earliest, middle]:
            self.assertEqual(thing.__module__, "roundminutes.shifts")
            self.assertIs(vars(shifts)[thing.__name__], thing)


class CopyTest(unittest.TestCase):

    def test_later_changes_of_the_dict_passed_in(self):
        moves = {"a": 1, "b": 0}
        shift = Shift(moves)
        moves["a"] = 5
        moves["b"] = 6
        moves.pop("a")
        self.assertEqual((shift.moves, shift.size, len(shift), "b" in shift), ({"a": 1}, 1, 1, False))

    def test_dict_passed_in_stays(self):
        moves = {"b": 1, "a": 0}
        Shift(moves)
        self.assertEqual(list(moves.items()), [("b", 1), ("a", 0)])

    def test_later_changes_of_the_dict_returned(self):
        shift = Shift({"a": 1})
        shift.moves["a"] = 7
        shift.moves.clear()
        self.assertEqual((shift.moves, shift["a"]), ({"a": 1}, 1))
        self.assertIsNot(shift.moves, shift.moves)
        self.assertIs(type(shift.moves), dict)

    def test_signs_change_nothing(self):
        first, second = Shift({"a": 1, "b": -2}), Shift({"b": 5, "c": 3})
        for _ in [first + second, first - second, first | second, first & second, -first, abs(first), 3 * first,
                  first * 3, first // 2, middle(first, second, first), latest(first, second), earliest(first, second)]:
            self.assertEqual(first.moves, {"a": 1, "b": -2})
            self.assertEqual(second.moves, {"b": 5, "c": 3})

    def test_in_place_signs_make_new_shifts(self):
        first = kept = Shift({"a": 1})
        first += Shift({"a": 2})
        self.assertEqual((first.moves, kept.moves), ({"a": 3}, {"a": 1}))


class SignsTest(ErrorCase):

    def setUp(self):
        self.first = Shift({"a": 3, "b": -2, "d": 1})
        self.second = Shift({"b": 5, "c": -4, "d": -1})

    def assert_moves(self, shift, moves):
        """The shift has these entries, names in this order."""
        self.assertIs(type(shift), Shift)
        self.assertEqual(list(shift.moves.items()), list(moves.items()))

    def test_plus(self):
        self.assert_moves(self.first + self.second, {"a": 3, "b": 3, "c": -4})
        self.assert_moves(self.second + self.first, {"a": 3, "b": 3, "c": -4})
        self.assert_moves(self.first + Shift({}), {"a": 3, "b": -2, "d": 1})
        self.assert_moves(Shift({}) + self.first, {"a": 3, "b": -2, "d": 1})

    def test_minus(self):
        self.assert_moves(self.first - self.second, {"a": 3, "b": -7, "c": 4, "d": 2})
        self.assert_moves(self.second - self.first, {"a": -3, "b": 7, "c": -4, "d": -2})
        self.assert_moves(self.first - self.first, {})
        self.assert_moves(Shift({}) - self.first, {"a": -3, "b": 2, "d": -1})

    def test_or(self):
        self.assert_moves(self.first | self.second, {"a": 3, "b": 5, "d": 1})
        self.assert_moves(self.second | self.first, {"a": 3, "b": 5, "d": 1})
        self.assert_moves(Shift({}) | self.second, {"b": 5})
        self.assert_moves(self.second | Shift({}), {"b": 5})
        self.assert_moves(Shift({"a": -3}) | Shift({"a": -1}), {"a": -1})

    def test_and(self):
        self.assert_moves(self.first & self.second, {"b": -2, "c": -4, "d": -1})
        self.assert_moves(self.second & self.first, {"b": -2, "c": -4, "d": -1})
        self.assert_moves(Shift({}) & self.second, {"c": -4, "d": -1})
        self.assert_moves(self.second & Shift({}), {"c": -4, "d": -1})
        self.assert_moves(Shift({"a": 3}) & Shift({"a": 1}), {"a": 1})

    def test_unary_minus(self):
        self.assert_moves(-self.first, {"a": -3, "b": 2, "d": -1})
        self.assert_moves(-Shift({}), {})

    def test_abs(self):
        self.assert_moves(abs(self.first), {"a": 3, "b": 2, "d": 1})
        self.assert_moves(abs(Shift({})), {})

    def test_times_a_number(self):
        for k in [-10 ** 9, -2, -1, 0, 1, 2, 7, 10 ** 9]:
            moves = {name: entry * k for name, entry in self.first.moves.items() if k}
            self.assert_moves(k * self.first, moves)
            self.assert_moves(self.first * k, moves)

    def test_divided_and_rounded_down(self):
        shift = Shift({"a": -3, "b": 4, "c": 1, "d": -1, "e": 9, "f": -10})
        self.assert_moves(shift // 1, shift.moves)
        self.assert_moves(shift // 2, {"a": -2, "b": 2, "d": -1, "e": 4, "f": -5})
        self.assert_moves(shift // 3, {"a": -1, "b": 1, "d": -1, "e": 3, "f": -4})
        self.assert_moves(shift // 10 ** 9, {"a": -1, "d": -1, "f": -1})

    def test_divided_by_a_number_below_one(self):
        for k in [0, -1, -2, -10 ** 9]:
            self.assert_error(BadNumber, [k], lambda k=k: self.first // k)
            self.assert_error(BadNumber, [k], lambda k=k: Shift({}) // k)

    def test_examples_of_the_interface(self):
        self.assertEqual((Shift({"a": 3}) | Shift({"b": -2})).moves, {"a": 3})
        self.assertEqual((Shift({"a": -3, "b": 4}) // 2).moves, {"a": -2, "b": 2})


class TogetherTest(ErrorCase):

    def test_one_minute_if_none_are_given(self):
        self.assertEqual(Shift.together("b", "a").moves, {"a": 1, "b": 1})

    def test_minutes(self):
        for minutes in [-10 ** 9, -3, 2, 10 ** 9]:
            self.assertEqual(Shift.together("b", "a", minutes=minutes).moves, {"a": minutes, "b": minutes})
        self.assertEqual(Shift.together("b", "a", minutes=0).moves, {})

    def test_no_names(self):
        self.assertEqual(Shift.together(), Shift({}))
        self.assertEqual(Shift.together(minutes=4), Shift({}))

    def test_a_name_given_twice_counts_once(self):
        self.assertEqual(Shift.together("a", "b", "a", "a", minutes=-2).moves, {"a": -2, "b": -2})

    def test_first_bad_name_as_given(self):
        for name in BAD_NAMES:
            self.assert_error(BadName, [name], Shift.together, "b", name, "A", "a")
            self.assert_error(BadName, [name], Shift.together, name, minutes=0)
        self.assert_error(BadName, ["Z"], Shift.together, "z", "Z", "A", "Z")

    def test_off_a_shift(self):
        self.assertEqual(Shift({"c": 1}).together("a", minutes=5), Shift({"a": 5}))


class JoiningTest(unittest.TestCase):

    def setUp(self):
        self.three = [Shift({"a": 3, "b": -2}), Shift({"b": -5, "c": -4}), Shift({"a": 1, "b": -3, "c": -1, "d": 2})]

    def test_no_shift(self):
        self.assertEqual((latest(), earliest()), (Shift({}), Shift({})))

    def test_one_shift_is_returned_itself(self):
        for shift in self.three:
            self.assertIs(latest(shift), shift)
            self.assertIs(earliest(shift), shift)
        self.assertEqual(latest(Shift({"a": -3})).moves, {"a": -3})
        self.assertEqual(earliest(Shift({"a": 3})).moves, {"a": 3})

    def test_two_shifts(self):
        self.assertEqual(latest(*self.three[:2]).moves, {"a": 3, "b": -2})
        self.assertEqual(earliest(*self.three[:2]).moves, {"b": -5, "c": -4})

    def test_three_shifts_in_any_order(self):
        one, two, three = self.three
        for row in [(one, two, three), (three, one, two), (two, one, three)]:
            self.assertEqual(latest(*row).moves, {"a": 3, "b": -2, "d": 2})
            self.assertEqual(earliest(*row).moves, {"b": -5, "c": -4})

    def test_all_negative_and_all_positive(self):
        row = [Shift({"a": -3}), Shift({"a": -1}), Shift({"a": -2}), Shift({"a": -1})]
        self.assertEqual((latest(*row).moves, earliest(*row).moves), ({"a": -1}, {"a": -3}))
        row = [-shift for shift in row]
        self.assertEqual((latest(*row).moves, earliest(*row).moves), ({"a": 3}, {"a": 1}))

    def test_middle(self):
        one, two, three = self.three
        for row in [(one, two, three), (one, three, two), (two, one, three), (two, three, one), (three, one, two),
                    (three, two, one)]:
            self.assertEqual(middle(*row).moves, {"a": 1, "b": -3, "c": -1})

    def test_middle_of_all_small_entries(self):
        for entries in [(a, b, c) for a in range(-2, 3) for b in range(-2, 3) for c in range(-2, 3)]:
            found = middle(*[Shift({"a": entry}) for entry in entries])
            self.assertEqual(found["a"], sorted(entries)[1], entries)

    def test_middle_of_equal_shifts(self):
        one, two, _ = self.three
        self.assertEqual((middle(one, one, two), middle(two, one, one)), (one, one))


if __name__ == "__main__":
    unittest.main()
