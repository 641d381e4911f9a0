"""Texts of timetables, shifts and walks (points 2, 27, 29 and 30, and the interface of texts.py)."""

import unittest

from checking import TextCase
from roundminutes.errors import BadName, BadNumber, DoubleEvent
from roundminutes.rings import Base
from roundminutes.shifts import Shift
from roundminutes.texts import read_shift, read_times, read_walk, write_shift, write_times, write_walk
from roundminutes.times import Times
from samples import MIXED, NET, X

# What stands for no number, wherever it is.
NO_NUMBERS = ["", "+5", "-5", "05", "00", "1234567890", "5.", "5x", "x", "1_0", "\u0665", "\u00b2", "5\n", "\t5"]
BAD_NAMES = ["", "A", "1", "a_", "abcdefghi", "a\n", "\u00e4"]


class TimesTest(TextCase):

    def test_examples(self):
        self.assertEqual(write_times(X), "30 a=0 b=10 c=20")
        self.assertEqual(read_times("30 a=0 b=10 c=20"), X)
        self.assertIs(type(read_times("30")), Times)

    def test_order_of_the_timetable(self):
        times = Times(120, {"z9": 119, "b": 0, "a": 60})
        self.assertEqual(write_times(times), "120 z9=119 b=0 a=60")
        self.assertEqual(list(read_times("120 z9=119 b=0 a=60").minutes.items()), [("z9", 119), ("b", 0), ("a", 60)])

    def test_no_names(self):
        self.assertEqual((write_times(Times(3, {})), read_times("3")), ("3", Times(3, {})))

    def test_more_names_than_a_net_has(self):
        times = Times(60, {f"e{number}": number for number in range(60)})
        self.assertEqual(read_times(write_times(times)), times)

    def test_first_word_is_no_number_word(self):
        for word in NO_NUMBERS:
            if " " not in word:
                self.assert_bad_word(0, None, read_times, f"{word} a=0")
                self.assert_bad_word(0, None, read_times, word)
        self.assert_bad_word(0, None, read_times, "a=0")
        self.assert_bad_word(0, None, read_times, " 30 a=0")

    def test_round_length(self):
        for number in [0, 2, 121, 999999999]:
            self.assert_bad_word(0, (BadNumber, [number]), read_times, f"{number} a=999 x")

    def test_words_without_the_form(self):
        for word in ["", "a", "=", "a=", "==5", "a==5", "a=5=", "a=5=5", "=5=5", "a5", "a:5", "a+5", "5"]:
            self.assert_bad_word(2, None, read_times, f"30 a=0 {word} A=99")
            self.assert_bad_word(1, None, read_times, f"30 {word}")
        for number in NO_NUMBERS:
            self.assert_bad_word(2, None, read_times, f"30 a=0 b={number}")
            self.assert_bad_word(1, None, read_times, f"30 A={number}")
        self.assert_bad_word(1, None, read_times, "30 ")
        self.assert_bad_word(1, None, read_times, "30  a=0")
        self.assert_bad_word(2, None, read_times, "30 a=0 ")

    def test_names_then_minutes(self):
        for name in BAD_NAMES:
            self.assert_bad_word(2, (BadName, [name]), read_times, f"30 a=0 {name}=99 x")
        self.assert_bad_word(2, (DoubleEvent, ["a"]), read_times, "30 a=0 a=99 x")
        self.assert_bad_word(3, (DoubleEvent, ["a"]), read_times, "30 a=0 b=0 a=0")
        for number in [30, 31, 999999999]:
            self.assert_bad_word(2, (BadNumber, [number]), read_times, f"30 a=0 b={number} x")
        self.assertEqual(read_times("30 a=29")["a"], 29)

    def test_first_bad_word(self):
        self.assert_bad_word(1, (BadNumber, [30]), read_times, "30 a=30 A=0 a=0 x")
        self.assert_bad_word(1, None, read_times, "30 x a=30")
        self.assert_bad_word(0, (BadNumber, [2]), read_times, "2 x")


class ShiftTest(TextCase):

    def test_examples(self):
        self.assertEqual(write_shift(Shift({"b": -2, "a": 3})), "a+3 b-2")
        self.assertEqual(read_shift("a+3 b-2"), Shift({"a": 3, "b": -2}))

    def test_ascending_order_in_writing_and_any_order_in_reading(self):
        shift = Shift({"z": 1, "b1": -20, "aa": 999999999, "b": -999999999, "a": 7})
        self.assertEqual(write_shift(shift), "a+7 aa+999999999 b-999999999 b1-20 z+1")
        self.assertEqual(read_shift("z+1 b1-20 aa+999999999 b-999999999 a+7"), shift)
        self.assertEqual(read_shift(write_shift(shift)), shift)

    def test_empty_string(self):
        self.assertEqual((write_shift(Shift({})), write_shift(Shift({"a": 0}))), ("", ""))
        self.assertEqual(read_shift(""), Shift({}))
        self.assertIs(type(read_shift("")), Shift)

    def test_words_without_the_form(self):
        for word in ["", "a", "a3", "a=3", "+", "-", "a+", "a-", "a+0", "a-0", "A+0", "a+03", "a++3", "a+-3", "a-+3",
                     "a--3", "a+3+", "a+3-2", "a+3b", "+3+3", "3"]:
            self.assert_bad_word(1, None, read_shift, f"b-1 {word} A+1")
            if word:
                self.assert_bad_word(0, None, read_shift, word)
        for number in NO_NUMBERS:
            self.assert_bad_word(1, None, read_shift, f"b-1 a+{number}")
            self.assert_bad_word(1, None, read_shift, f"b-1 A-{number}")
        self.assert_bad_word(0, None, read_shift, " ")
        self.assert_bad_word(0, None, read_shift, " a+3")
        self.assert_bad_word(1, None, read_shift, "a+3 ")
        self.assert_bad_word(1, None, read_shift, "a+3  b-2")

    def test_names(self):
        for name in BAD_NAMES:
            self.assert_bad_word(1, (BadName, [name]), read_shift, f"a+3 {name}-2 x")
        self.assert_bad_word(0, (BadName, [""]), read_shift, "+3")
        self.assert_bad_word(0, (BadName, ["a=1"]), read_shift, "a=1+3")
        self.assert_bad_word(1, (DoubleEvent, ["a"]), read_shift, "a+3 a-3 x")
        self.assert_bad_word(2, (DoubleEvent, ["b"]), read_shift, "b+3 a-3 b+3")

    def test_first_bad_word(self):
        self.assert_bad_word(0, (BadName, ["A"]), read_shift, "A+1 x b+2 b+2")
        self.assert_bad_word(1, None, read_shift, "b+2 x b+2")


class WalkTest(TextCase):

    def test_examples(self):
        self.assertEqual(read_walk("2+ 0-"), [(2, 1), (0, -1)])
        self.assertEqual(write_walk([(2, 1), (0, -1)]), "2+ 0-")
        self.assertEqual(read_walk("0+ 12-"), [(0, 1), (12, -1)])

    def test_there_and_back(self):
        walk = [(0, -1), (123456789, 1), (0, -1), (10, -1), (9, 1)]
        self.assertEqual(write_walk(walk), "0- 123456789+ 0- 10- 9+")
        for steps in [walk, [], [(7, -1)], *Base(NET).rings, *Base(MIXED).rings]:
            self.assertEqual(read_walk(write_walk(steps)), steps)

    def test_empty_string(self):
        self.assertEqual((write_walk([]), read_walk("")), ("", []))

    def test_words_without_the_form(self):
        for word in ["", "+", "-", "0", "12", "+0", "-0", "0++", "0+-", "0--", "00+", "01-", "1234567890+",
                     "a+", "0+a", "-1+", "+1-", "0=", "1_0+", "\u0665+", "0+\n", "0\u2212"]:
            self.assert_bad_word(1, None, read_walk, f"0+ {word} x")
            if word:
                self.assert_bad_word(0, None, read_walk, word)
        self.assert_bad_word(0, None, read_walk, " ")
        self.assert_bad_word(0, None, read_walk, " 0+")
        self.assert_bad_word(1, None, read_walk, "0+ ")
        self.assert_bad_word(1, None, read_walk, "0+  0-")

    def test_list_passed_in_stays(self):
        walk = [(0, 1), (1, 1)]
        write_walk(walk)
        self.assertEqual(walk, [(0, 1), (1, 1)])


if __name__ == "__main__":
    unittest.main()
