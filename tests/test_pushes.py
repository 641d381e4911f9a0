"""Pushes and limits (point 18, and the interface of rooms.py)."""

import itertools
import unittest

from checking import ErrorCase
from roundminutes.errors import BadNumber, Stuck, UnknownEvent
from roundminutes.nets import Net
from roundminutes.rings import ends
from roundminutes.rooms import Island
from roundminutes.shifts import Shift
from roundminutes.times import Times
from samples import MIXED, MIXED_TIMES, NET, X, all_times, slack_of, small_nets


class PushTest(ErrorCase):

    def setUp(self):
        self.island = Island(NET, X)

    def test_example_of_the_interface(self):
        shift = self.island.push("b", 12)
        self.assertIs(type(shift), Shift)
        self.assertEqual(shift.moves, {"a": 2, "b": 12, "c": 7})

    def test_zero(self):
        for held in [[], ["b"], ["a", "b", "c"]]:
            self.assertEqual(self.island.push("b", 0, *held), Shift({}))

    def test_without_others(self):
        self.assertEqual(self.island.push("b", 5).moves, {"b": 5})
        self.assertEqual(self.island.push("b", -5).moves, {"b": -5})

    def test_later(self):
        # The room is 5 from c to b and 10 from a to b.
        self.assertEqual(self.island.push("b", 6).moves, {"b": 6, "c": 1})
        self.assertEqual(self.island.push("b", 11).moves, {"a": 1, "b": 11, "c": 6})

    def test_earlier(self):
        # The room is 5 from b to a and 10 from b to c.
        self.assertEqual(self.island.push("b", -6).moves, {"a": -1, "b": -6})
        self.assertEqual(self.island.push("b", -12).moves, {"a": -7, "b": -12, "c": -2})

    def test_farthest(self):
        self.assertEqual(self.island.push("b", 2000).moves, {"a": 1990, "b": 2000, "c": 1995})
        self.assertEqual(self.island.push("b", -2000).moves, {"a": -1995, "b": -2000, "c": -1990})
        for minutes in [2001, -2001, 10 ** 9, -10 ** 9]:
            self.assert_error(BadNumber, [minutes], self.island.push, "b", minutes)

    def test_other_pieces_stay(self):
        island = Island(MIXED, MIXED_TIMES)
        self.assertEqual(island.push("f", 2000, "a", "b", "c", "d", "e").moves, {"f": 2000})
        self.assertEqual(sorted(island.push("d", -2000, "a", "f").moves), ["d", "e"])

    def test_moves_as_little_as_possible(self):
        for net in small_nets(40, "pushes"):
            for times in all_times(net)[:1]:
                island = Island(net, times)
                for name, minutes in itertools.product(net, [-3, -2, -1, 1, 2, 3]):
                    push = island.push(name, minutes)
                    self.assertIs(island.lets(push), True)
                    ways = range(minutes + 1) if minutes > 0 else range(minutes, 1)
                    for entries in itertools.product(ways, repeat=len(net)):
                        shift = Shift(dict(zip(net, entries)))
                        if shift[name] == minutes and island.lets(shift):
                            self.assertEqual(push, push & shift if minutes > 0 else push | shift)

    def test_held_events(self):
        self.assertEqual(self.island.push("b", 6, "a").moves, {"b": 6, "c": 1})
        self.assertEqual(self.island.push("b", -10, "c", "c").moves, {"a": -5, "b": -10})

    def assert_stuck(self, island, name, minutes, *held, first):
        """The push is stuck at this held event first, and the error's walk shows it."""
        with self.subTest(name=name, minutes=minutes, held=held):
            with self.assertRaises(Stuck) as caught:
                island.push(name, minutes, *held)
            self.assertEqual(caught.exception.name, first)
            walk = caught.exception.way
            self.assertIs(type(walk), list)
            if first == name:
                self.assertEqual(walk, [])
            else:
                self.assertEqual(ends(island.net, walk), (first, name) if minutes > 0 else (name, first))
                self.assertLess(slack_of(island.net, island.times, walk), abs(minutes))

    def test_stuck_at_the_first_held_event_in_the_order_of_the_net(self):
        for held in [("a", "c"), ("c", "a"), ("c", "a", "c", "a")]:
            self.assert_stuck(self.island, "b", 11, *held, first="a")
            self.assert_stuck(self.island, "b", 10, *held, first="c")
            self.assert_stuck(self.island, "b", -6, *held, first="a")
            self.assert_stuck(self.island, "b", -2000, *held, first="a")
        self.assert_stuck(self.island, "b", -11, "c", first="c")

    def test_order_of_the_net_is_not_that_of_names(self):
        net = Net(30, ["c", "a", "b"], NET.spans)
        self.assert_stuck(Island(net, X), "b", 11, "a", "c", first="c")

    def test_stuck_at_the_pushed_event_itself(self):
        for minutes in [1, -1, 2000, -2000]:
            self.assert_stuck(self.island, "b", minutes, "b", first="b")
        self.assert_stuck(self.island, "b", 12, "b", "c", first="b")
        self.assert_stuck(self.island, "b", 12, "b", "a", first="a")

    def test_stuck_by_the_words_of_the_document(self):
        stuck = 0
        for net in small_nets(60, "stuck"):
            for times in all_times(net)[:1]:
                island = Island(net, times)
                for name, minutes, held in itertools.product(net, [-9, -4, -1, 1, 3, 8], ["ab", "c", "da"]):
                    held = [other for other in held if other in net]
                    moved = [other for other in net if other in held and other in island.push(name, minutes)]
                    if moved:
                        stuck += 1
                        self.assert_stuck(island, name, minutes, *held, first=moved[0])
                    else:
                        self.assertEqual(island.push(name, minutes, *held), island.push(name, minutes))
        self.assertGreater(stuck, 100)

    def test_order_of_the_faults(self):
        push = self.island.push
        self.assert_error(UnknownEvent, ["x"], push, "x", 2001, "y", "b")
        self.assert_error(BadNumber, [2001], push, "b", 2001, "y", "b")
        self.assert_error(UnknownEvent, ["z"], push, "b", 1, "b", "z", "y")
        self.assert_error(UnknownEvent, ["y"], push, "b", 0, "y", "z")

    def test_nothing_changes(self):
        self.island.push("b", 12)
        with self.assertRaises(Stuck):
            self.island.push("b", 12, "a")
        self.assertEqual((self.island.times, self.island.push("b", 12).moves), (X, {"a": 2, "b": 12, "c": 7}))


class LimitsTest(ErrorCase):

    def test_one_held_event(self):
        island = Island(NET, X)
        self.assertEqual(island.limits("b", "a"), (-5, 10))
        self.assertEqual(island.limits("b", "c"), (-10, 5))
        self.assertIs(type(island.limits("b", "c")), tuple)

    def test_several_held_events(self):
        island = Island(NET, X)
        self.assertEqual(island.limits("b", "a", "c", "a"), (-5, 5))
        self.assertEqual(island.limits("b", "c", "a"), (-5, 5))

    def test_held_itself(self):
        self.assertEqual(Island(NET, X).limits("b", "b"), (0, 0))
        self.assertEqual(Island(NET, X).limits("b", "a", "b"), (0, 0))

    def test_no_held_event_in_the_piece(self):
        self.assertEqual(Island(NET, X).limits("b"), (None, None))
        self.assertEqual(Island(MIXED, MIXED_TIMES).limits("b", "e", "d", "f"), (None, None))
        self.assertEqual(Island(MIXED, MIXED_TIMES).limits("f", "a"), (None, None))

    def test_held_events_of_other_pieces_do_not_count(self):
        island = Island(MIXED, MIXED_TIMES)
        self.assertEqual(island.limits("b", "e", "a", "f"), island.limits("b", "a"))

    def test_limits_are_where_pushes_get_stuck(self):
        for net in small_nets(60, "limits"):
            for times in all_times(net)[:1]:
                island = Island(net, times)
                for name, held in itertools.product(net, ["a", "ad", "cb", ""]):
                    held = [other for other in held if other in net]
                    earlier, later = island.limits(name, *held)
                    for minutes in range(-25, 26):
                        let = earlier is None or earlier <= minutes <= later
                        self.assertEqual(self.is_let(island, name, minutes, held), let)

    def is_let(self, island, name, minutes, held):
        try:
            island.push(name, minutes, *held)
        except Stuck:
            return False
        return True

    def test_faults(self):
        limits = Island(NET, X).limits
        self.assert_error(UnknownEvent, ["x"], limits, "x", "y")
        self.assert_error(UnknownEvent, ["z"], limits, "a", "b", "z", "y")
        self.assert_error(UnknownEvent, ["x"], limits, "x")


if __name__ == "__main__":
    unittest.main()
