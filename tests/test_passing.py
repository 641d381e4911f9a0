"""The minutes that pass, and timetables that keep nets (points 6 and 7, and the interface of passing.py)."""

import unittest

from checking import ErrorCase
from roundminutes import passing
from roundminutes.errors import BadNumber, BrokenSpan, UnknownSpan, WrongNames
from roundminutes.nets import Net
from roundminutes.passing import broken, check_times, passed, waits
from roundminutes.times import Times

NET = Net(30, ["a", "b", "c"], [("a", "b", 5, 25, 1), ("b", "c", 5, 25, 3), ("c", "a", 5, 25, 2)])
X = Times(30, {"a": 0, "b": 10, "c": 20})

NUMBERS_OF_NO_SPAN = [-1, -2, -3, -4, 3, 4, 24, 10 ** 9, -10 ** 9]


def two(round_length, first, second):
    return Times(round_length, {"a": first, "b": second})


def one_span(round_length, least, most, weight=1):
    return Net(round_length, ["a", "b"], [("a", "b", least, most, weight)])


class PassedTest(ErrorCase):

    def test_at_the_bounds(self):
        net = one_span(30, 5, 25)
        for minute, minutes in [(4, None), (5, 5), (6, 6), (24, 24), (25, 25), (26, None), (0, None)]:
            self.assertEqual(passed(net, two(30, 0, minute), 0), minutes)
            self.assertEqual(passed(net, two(30, 13, (13 + minute) % 30), 0), minutes)

    def test_at_the_bounds_when_they_are_a_round_or_more(self):
        net = one_span(30, 29, 56)
        for minute, minutes in [(29, 29), (0, 30), (1, 31), (25, 55), (26, 56), (27, None), (28, None)]:
            self.assertEqual(passed(net, two(30, 0, minute), 0), minutes)
            self.assertEqual(passed(net, two(30, 29, (29 + minute) % 30), 0), minutes)

    def test_equal_bounds(self):
        self.assertEqual([passed(one_span(30, 7, 7), two(30, 3, at), 0) for at in (9, 10, 11)], [None, 7, None])
        self.assertEqual([passed(one_span(30, 0, 0), two(30, 3, at), 0) for at in (2, 3, 4)], [None, 0, None])

    def test_shortest_round(self):
        self.assertEqual([passed(one_span(3, 2, 2), two(3, 1, at), 0) for at in range(3)], [2, None, None])

    def test_against_the_words_of_the_document(self):
        for round_length, least, most in [(3, 0, 0), (4, 3, 4), (5, 2, 4), (7, 6, 10), (7, 0, 4)]:
            net = one_span(round_length, least, most)
            for first, second in [(a, b) for a in range(round_length) for b in range(round_length)]:
                found = [k for k in range(least, most + 1) if (k - second + first) % round_length == 0]
                times = two(round_length, first, second)
                self.assertEqual(passed(net, times, 0), found[0] if found else None)
                self.assertEqual(broken(net, times), [] if found else [0])

    def test_each_span(self):
        times = Times(30, {"c": 20, "a": 0, "b": 6})
        self.assertEqual([passed(NET, times, number) for number in range(3)], [6, 14, 10])

    def test_other_spans_need_not_be_kept(self):
        times = Times(30, {"a": 0, "b": 2, "c": 20})
        self.assertEqual([passed(NET, times, number) for number in range(3)], [None, 18, 10])

    def test_numbers_of_no_span(self):
        for number in NUMBERS_OF_NO_SPAN:
            self.assert_error(UnknownSpan, [number], passed, NET, X, number)
        self.assert_error(UnknownSpan, [0], passed, Net(30, [], []), Times(30, {}), 0)

    def test_faults_of_the_timetable_come_first(self):
        self.assert_error(BadNumber, [31], passed, NET, Times(31, {"x": 0}), -1)
        self.assert_error(WrongNames, ["b"], passed, NET, Times(30, {"a": 0}), -1)
        self.assert_error(WrongNames, ["x"], passed, NET, Times(30, {**X.minutes, "x": 0}), -1)

    def test_examples_of_the_interface(self):
        self.assertEqual((passed(NET, X, 2), waits(NET, X)), (10, 30))


class BrokenTest(ErrorCase):

    def test_none(self):
        self.assertEqual(broken(NET, X), [])
        self.assertEqual(broken(Net(30, ["a"], []), Times(30, {"a": 7})), [])
        self.assertEqual(broken(Net(30, [], []), Times(30, {})), [])

    def test_ascending_numbers(self):
        self.assertEqual(broken(NET, Times(30, {"a": 0, "b": 2, "c": 20})), [0])
        self.assertEqual(broken(NET, Times(30, {"a": 0, "b": 10, "c": 29})), [2])
        self.assertEqual(broken(NET, Times(30, {"a": 0, "b": 4, "c": 2})), [0, 1, 2])
        self.assertEqual(broken(NET, Times(30, {"a": 0, "b": 10, "c": 0})), [2])

    def test_a_new_list_each_time(self):
        times = Times(30, {"a": 0, "b": 2, "c": 20})
        broken(NET, times).append(7)
        self.assertEqual(broken(NET, times), [0])

    def test_faults(self):
        self.assert_error(BadNumber, [29], broken, NET, Times(29, {}))
        self.assert_error(WrongNames, ["a"], broken, NET, Times(30, {"b": 10, "c": 20, "d": 0}))
        self.assert_error(WrongNames, ["d"], broken, NET, Times(30, {**X.minutes, "d": 0}))


class WaitsTest(ErrorCase):

    def test_sum_over_all_spans(self):
        self.assertEqual(waits(NET, Times(30, {"a": 0, "b": 5, "c": 10})), 2 * 15)
        self.assertEqual(waits(NET, Times(30, {"a": 0, "b": 6, "c": 20})), 1 + 3 * 9 + 2 * 5)

    def test_no_waits(self):
        self.assertEqual(waits(Net(30, ["a"], []), Times(30, {"a": 7})), 0)
        self.assertEqual(waits(one_span(30, 7, 20, 99), two(30, 0, 7)), 0)
        self.assertEqual(waits(one_span(30, 7, 20, 0), two(30, 0, 20)), 0)

    def test_minutes_that_are_a_round_or_more(self):
        self.assertEqual(waits(one_span(30, 29, 56, 99), two(30, 4, 0)), 99 * 27)

    def test_faults(self):
        self.assert_error(BadNumber, [29], waits, NET, Times(29, {}))
        self.assert_error(WrongNames, ["c"], waits, NET, Times(30, {"b": 1, "a": 0}))
        self.assert_error(WrongNames, ["d"], waits, NET, Times(30, {**X.minutes, "d": 0}))
        self.assert_error(BrokenSpan, [0], waits, NET, Times(30, {"a": 0, "b": 4, "c": 2}))


class CheckTimesTest(ErrorCase):

    def test_a_timetable_that_keeps_the_net(self):
        self.assertIs(check_times(NET, X), None)
        self.assertIs(check_times(NET, Times(30, {"c": 20, "b": 10, "a": 0})), None)
        self.assertIs(check_times(Net(30, [], []), Times(30, {})), None)

    def test_round_lengths(self):
        self.assert_error(BadNumber, [60], check_times, NET, Times(60, X.minutes))
        self.assert_error(BadNumber, [29], check_times, NET, Times(29, X.minutes))

    def test_names_that_the_timetable_lacks_in_the_order_of_the_net(self):
        net = Net(30, ["c", "a", "b"], [])
        self.assert_error(WrongNames, ["c"], check_times, net, Times(30, {"x": 0}))
        self.assert_error(WrongNames, ["a"], check_times, net, Times(30, {"c": 0}))
        self.assert_error(WrongNames, ["b"], check_times, net, Times(30, {"a": 0, "c": 0}))
        self.assert_error(WrongNames, ["c"], check_times, net, Times(30, {}))

    def test_names_that_the_net_lacks_in_the_order_of_the_timetable(self):
        self.assert_error(WrongNames, ["z"], check_times, NET, Times(30, {"z": 0, "c": 20, "d": 0, "a": 0, "b": 10}))
        self.assert_error(WrongNames, ["d"], check_times, NET, Times(30, {"c": 20, "d": 0, "z": 0, "a": 0, "b": 10}))
        self.assert_error(WrongNames, ["z"], check_times, Net(30, [], []), Times(30, {"z": 0}))

    def test_first_span_that_is_not_kept(self):
        for minutes, number in [((0, 2, 20), 0), ((0, 10, 12), 1), ((0, 10, 29), 2), ((0, 4, 2), 0), ((5, 10, 9), 1)]:
            self.assert_error(BrokenSpan, [number], check_times, NET, Times(30, dict(zip("abc", minutes))))

    def test_order_of_the_faults(self):
        self.assert_error(BadNumber, [29], check_times, NET, Times(29, {"a": 0, "x": 1}))
        self.assert_error(WrongNames, ["b"], check_times, NET, Times(30, {"x": 1, "a": 0}))
        self.assert_error(WrongNames, ["x"], check_times, NET, Times(30, {"x": 1, "a": 0, "b": 2, "c": 3}))
        self.assert_error(BrokenSpan, [0], check_times, NET, Times(30, {"a": 0, "b": 2, "c": 3}))


class UnchangedTest(unittest.TestCase):

    def test_arguments_stay(self):
        spans, minutes = NET.spans, X.minutes
        for call in [lambda: check_times(NET, X), lambda: passed(NET, X, 0), lambda: broken(NET, X),
                     lambda: waits(NET, X)]:
            call()
            self.assertEqual((NET.spans, X.minutes, list(X.minutes)), (spans, minutes, list(minutes)))

    def test_everything_is_defined_where_it_is_listed(self):
        for thing in [check_times, passed, broken, waits]:
            self.assertEqual(thing.__module__, "roundminutes.passing")
            self.assertIs(vars(passing)[thing.__name__], thing)


if __name__ == "__main__":
    unittest.main()
