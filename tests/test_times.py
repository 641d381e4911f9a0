"""Timetables (points 2, 3, 6 and 9, and the interface of times.py)."""

import unittest

from checking import ErrorCase
from roundminutes.errors import BadName, BadNumber, UnknownEvent
from roundminutes.shifts import Shift
from roundminutes.times import Times

MINUTES = {"b": 10, "a": 0, "c1": 29}
BAD_NAMES = ["", "A", "1a", "a_", "a b", "abcdefghi", "\u00e4"]


def example():
    return Times(30, MINUTES)


class TellingTest(unittest.TestCase):

    def test_round_length(self):
        self.assertEqual((example().round_length, Times(7, {}).round_length), (30, 7))

    def test_minutes_in_the_order_of_the_dict(self):
        self.assertEqual(list(example().minutes.items()), [("b", 10), ("a", 0), ("c1", 29)])
        self.assertEqual(Times(30, {}).minutes, {})

    def test_items(self):
        times = example()
        self.assertEqual([times["a"], times["b"], times["c1"]], [0, 10, 29])

    def test_length_iteration_and_membership(self):
        times = example()
        self.assertEqual((len(times), len(Times(30, {}))), (3, 0))
        self.assertEqual(list(times), ["b", "a", "c1"])
        self.assertEqual([first + second for first in times for second in times][:4], ["bb", "ba", "bc1", "ab"])
        for name in MINUTES:
            self.assertIs(name in times, True)
        for name in ["d", "", "c", "A", "ba"]:
            self.assertIs(name in times, False)

    def test_more_names_than_a_net_has_events(self):
        self.assertEqual(len(Times(30, {f"a{at}": 0 for at in range(13)})), 13)

    def test_order_of_the_names_does_not_count(self):
        self.assertIs(Times(30, {"a": 0, "c1": 29, "b": 10}) == example(), True)
        self.assertIs(Times(30, {"a": 0, "c1": 29, "b": 10}) != example(), False)

    def test_other_minutes_names_and_round_lengths_count(self):
        others = [Times(30, {**MINUTES, "a": 1}), Times(30, {"b": 10, "a": 0}), Times(30, {**MINUTES, "d": 0}),
                  Times(30, {"b": 10, "d": 0, "c1": 29}), Times(31, MINUTES), Times(30, {})]
        for other in others:
            with self.subTest(other.minutes):
                self.assertIs(example() == other, False)
                self.assertIs(example() != other, True)
        self.assertIs(Times(3, {}) == Times(4, {}), False)

    def test_other_kinds_are_not_equal(self):
        for other in [None, 30, MINUTES, "b", Shift({"b": 10})]:
            self.assertIs(example() == other, False)

    def test_everything_is_defined_where_it_is_listed(self):
        self.assertEqual(Times.__module__, "roundminutes.times")
        for name in ["__init__", "round_length", "minutes", "__getitem__", "__len__", "__iter__", "__contains__",
                     "__eq__", "__add__", "__sub__", "__rshift__", "__lshift__", "mirrored", "zero"]:
            with self.subTest(name):
                self.assertIn(name, vars(Times))


class CopyTest(unittest.TestCase):

    def test_later_changes_of_the_dict_passed_in(self):
        minutes = dict(MINUTES)
        times = Times(30, minutes)
        minutes["a"] = 5
        minutes["d"] = 6
        minutes.pop("b")
        self.assertEqual((times, len(times), times["b"]), (example(), 3, 10))

    def test_dict_passed_in_stays(self):
        minutes = dict(MINUTES)
        times = Times(30, minutes)
        for _ in [times + Shift({"a": 1}), times - Shift({"a": 1}), times >> 1, times << 1, times.mirrored()]:
            self.assertEqual(list(minutes.items()), list(MINUTES.items()))
            self.assertEqual(list(times.minutes.items()), list(MINUTES.items()))

    def test_later_changes_of_the_dict_returned(self):
        times = example()
        times.minutes["a"] = 7
        times.minutes.clear()
        self.assertEqual((times, times.minutes), (example(), MINUTES))
        self.assertIsNot(times.minutes, times.minutes)
        self.assertIs(type(times.minutes), dict)

    def test_in_place_signs_make_new_timetables(self):
        times = kept = example()
        times += Shift({"a": 1})
        times >>= 2
        self.assertEqual((times["a"], kept), (3, example()))


class FaultsTest(ErrorCase):

    def test_round_lengths(self):
        for round_length in [3, 4, 119, 120]:
            self.assertEqual(Times(round_length, {"a": round_length - 1})["a"], round_length - 1)
        for round_length in [2, 1, 0, -1, -3, -10 ** 9, 121, 10 ** 9]:
            self.assert_error(BadNumber, [round_length], Times, round_length, {})

    def test_names(self):
        for name in BAD_NAMES:
            self.assert_error(BadName, [name], Times, 30, {name: 0})
        self.assertEqual(len(Times(30, {"a": 0, "abcdefgh": 0, "z9": 0})), 3)

    def test_minutes(self):
        for round_length in [3, 30, 120]:
            for minute in [-1, -10 ** 9, round_length, round_length + 1, 10 ** 9]:
                self.assert_error(BadNumber, [minute], Times, round_length, {"a": minute})

    def test_order_of_the_faults(self):
        self.assert_error(BadNumber, [121], Times, 121, {"A": -1})
        self.assert_error(BadName, ["A"], Times, 30, {"A": -1})
        self.assert_error(BadName, ["B"], Times, 30, {"b": 0, "B": 31, "A": -1})
        self.assert_error(BadNumber, [30], Times, 30, {"b": 30, "A": 0})
        self.assert_error(BadNumber, [-1], Times, 30, {"a": 29, "b": -1, "c": 30})

    def test_items_of_unknown_names(self):
        for name in ["d", "", "A", "c"]:
            self.assert_error(UnknownEvent, [name], lambda name=name: example()[name])
        self.assert_error(UnknownEvent, ["a"], lambda: Times(30, {})["a"])


class ZeroTest(ErrorCase):

    def test_all_names_at_minute_zero_in_the_order_given(self):
        times = Times.zero(30, "b", "a", "c")
        self.assertEqual((times.round_length, list(times.minutes.items())), (30, [("b", 0), ("a", 0), ("c", 0)]))

    def test_a_name_given_twice_counts_once(self):
        self.assertEqual(list(Times.zero(30, "b", "a", "b", "b").minutes.items()), [("b", 0), ("a", 0)])

    def test_no_names(self):
        self.assertEqual(Times.zero(3), Times(3, {}))

    def test_faults(self):
        for round_length in [2, 0, -1, 121]:
            self.assert_error(BadNumber, [round_length], Times.zero, round_length, "A")
        for name in BAD_NAMES:
            self.assert_error(BadName, [name], Times.zero, 30, "a", name, "B")

    def test_off_a_timetable(self):
        self.assertEqual(example().zero(5, "a"), Times(5, {"a": 0}))


class ShiftedTest(ErrorCase):

    def assert_minutes(self, times, minutes):
        """The timetable has these minutes, names in this order, and the round length 30."""
        self.assertIs(type(times), Times)
        self.assertEqual((times.round_length, list(times.minutes.items())), (30, list(minutes.items())))

    def test_plus(self):
        self.assert_minutes(example() + Shift({"a": -1, "c1": 1}), {"b": 10, "a": 29, "c1": 0})
        self.assert_minutes(example() + Shift({"b": 65}), {"b": 15, "a": 0, "c1": 29})
        self.assert_minutes(example() + Shift({"b": -10 ** 9}), {"b": (10 - 10 ** 9) % 30, "a": 0, "c1": 29})
        self.assert_minutes(example() + Shift({}), MINUTES)

    def test_minus(self):
        self.assert_minutes(example() - Shift({"a": 1, "c1": -1}), {"b": 10, "a": 29, "c1": 0})
        self.assert_minutes(example() - Shift({"b": 65}), {"b": 5, "a": 0, "c1": 29})
        self.assert_minutes(example() - Shift({}), MINUTES)

    def test_minus_takes_plus_back(self):
        shift = Shift({"a": 44, "b": -71, "c1": 30})
        self.assert_minutes(example() + shift - shift, MINUTES)

    def test_first_unknown_name_in_ascending_order(self):
        for shift in [Shift({"d": 1}), Shift({"e": 1, "a": 2, "d": -1}), Shift({"z": 3, "d": 1})]:
            self.assert_error(UnknownEvent, ["d"], lambda shift=shift: example() + shift)
            self.assert_error(UnknownEvent, ["d"], lambda shift=shift: example() - shift)
        self.assert_minutes(example() + Shift({"d": 0}), MINUTES)

    def test_all_later_and_all_earlier(self):
        for k in [-10 ** 9, -91, -31, -30, -29, -1, 0, 1, 15, 29, 30, 31, 95, 10 ** 9]:
            self.assert_minutes(example() >> k, {name: (minute + k) % 30 for name, minute in MINUTES.items()})
            self.assert_minutes(example() << k, {name: (minute - k) % 30 for name, minute in MINUTES.items()})
        self.assertEqual(Times(30, {}) >> 5, Times(30, {}))

    def test_mirrored(self):
        self.assert_minutes(example().mirrored(), {"b": 20, "a": 0, "c1": 1})
        self.assert_minutes(example().mirrored().mirrored(), MINUTES)

    def test_example_of_the_interface(self):
        self.assertEqual((Times(30, {"a": 0, "b": 10, "c": 20}) >> 15).minutes, {"a": 15, "b": 25, "c": 5})


if __name__ == "__main__":
    unittest.main()
