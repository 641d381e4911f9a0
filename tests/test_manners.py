"""Manners and what they fix (points 2, 20, 21 and 22, and the interface of manners.py)."""

import unittest

from checking import ErrorCase
from roundminutes import manners
from roundminutes.errors import UnknownEvent
from roundminutes.manners import Alone, Daily, Manner
from roundminutes.nets import Net
from roundminutes.rooms import Island
from roundminutes.shifts import Shift
from roundminutes.times import Times
from samples import CHAIN, CHAIN_START, MIXED, MIXED_TIMES, NET, X, all_times, small_nets

KINDS = [Manner, Daily, Alone]

# The groups are [e, d], [a, b, c] and the single events f and g.
GROUPS = Net(30, ["e", "f", "c", "b", "d", "a", "g"], [
    ("a", "b", 10, 10, 1), ("b", "c", 7, 7, 1), ("d", "e", 4, 4, 1), ("c", "d", 5, 30, 1), ("e", "f", 5, 20, 1)])
GROUPS_TIMES = Times(30, {"a": 0, "b": 10, "c": 17, "d": 0, "e": 4, "f": 10, "g": 3})


class ClassesTest(unittest.TestCase):

    def test_names(self):
        self.assertEqual([kind.NAME for kind in KINDS], ["manner", "daily", "alone"])
        self.assertEqual([kind().NAME for kind in KINDS], ["manner", "daily", "alone"])

    def test_base_class(self):
        self.assertEqual((Daily.__bases__, Alone.__bases__), ((Manner,), (Manner,)))

    def test_everything_is_defined_where_it_is_listed(self):
        listed = [(Manner, ["__init__", "held", "NAME", "fixed", "lead"]), (Daily, ["NAME", "fewest"]),
                  (Alone, ["NAME", "fewest", "fixed"])]
        for kind, names in listed:
            self.assertEqual(kind.__module__, "roundminutes.manners")
            self.assertIs(vars(manners)[kind.__name__], kind)
            for name in names:
                self.assertIn(name, vars(kind))
        self.assertIs(Daily.lead, Manner.lead)
        self.assertIs(Alone.lead, Manner.lead)


class HeldTest(unittest.TestCase):

    def test_order_given_and_each_name_once(self):
        for kind in KINDS:
            self.assertEqual(kind().held, [])
            self.assertEqual(kind("b", "a", "b", "c", "a").held, ["b", "a", "c"])

    def test_names_that_are_no_events_too(self):
        for kind in KINDS:
            self.assertEqual(kind("zz", "", "No name", "a", "").held, ["zz", "", "No name", "a"])

    def test_new_list_each_time(self):
        for kind in KINDS:
            manner = kind("b", "a")
            manner.held.append("c")
            manner.held.clear()
            self.assertEqual(manner.held, ["b", "a"])


class FixedTest(ErrorCase):

    def test_held_events_in_the_order_of_the_net(self):
        island = Island(NET, X)
        for kind in KINDS:
            self.assertEqual(kind().fixed(island), [])
            self.assertEqual(kind("c", "a", "c").fixed(island), ["a", "c"])
        island = Island(MIXED, MIXED_TIMES)
        for kind in [Manner, Daily]:
            self.assertEqual(kind("f", "a", "d", "e").fixed(island), ["e", "d", "a", "f"])

    def test_groups_do_not_matter_for_daily_moves(self):
        for kind in [Manner, Daily]:
            self.assertEqual(kind().fixed(Island(CHAIN, CHAIN_START)), [])
            self.assertEqual(kind("e", "c").fixed(Island(CHAIN, CHAIN_START)), ["c", "e"])

    def test_groups_are_fixed_for_alone_moves(self):
        island = Island(CHAIN, CHAIN_START)
        self.assertEqual(Alone().fixed(island), ["a", "b", "d", "e"])
        self.assertEqual(Alone("c").fixed(island), ["a", "b", "c", "d", "e"])
        island = Island(GROUPS, GROUPS_TIMES)
        self.assertEqual(island.groups, [["e", "d"], ["f"], ["c", "b", "a"], ["g"]])
        self.assertEqual(Alone().fixed(island), ["e", "c", "b", "d", "a"])
        self.assertEqual(Alone("g", "a", "g").fixed(island), ["e", "c", "b", "d", "a", "g"])

    def test_groups_of_small_nets(self):
        grouped = 0
        for net in small_nets(60, "fixed"):
            for times in all_times(net)[:2]:
                island = Island(net, times)
                fixed = [name for name in net
                         if any(island.room(name, other) == -island.room(other, name)
                                for other in net if other != name and island.room(name, other) is not None)]
                self.assertEqual(Alone().fixed(island), fixed)
                self.assertEqual(Daily().fixed(island), [])
                grouped += len(fixed) > 0
        self.assertGreater(grouped, 10)

    def test_first_held_name_that_is_no_event(self):
        island = Island(CHAIN, CHAIN_START)
        for kind in KINDS:
            self.assert_error(UnknownEvent, ["zz"], kind("a", "zz", "f").fixed, island)
            self.assert_error(UnknownEvent, ["f"], kind("f", "zz", "a").fixed, island)
            self.assert_error(UnknownEvent, [""], kind("").fixed, island)

    def test_new_list_each_time(self):
        island = Island(CHAIN, CHAIN_START)
        for manner in [Daily("a"), Alone("a")]:
            first = manner.fixed(island)
            manner.fixed(island).clear()
            self.assertEqual(manner.fixed(island), first)


class FewestTest(unittest.TestCase):

    def test_height_and_size(self):
        for moves, height, size in [({}, 0, 0), ({"a": 5}, 5, 5), ({"a": -5, "b": 3, "c": 0}, 5, 8),
                                    ({"a": 2, "zz": -7, "c": 7}, 7, 16)]:
            with self.subTest(moves):
                self.assertEqual(Daily().fewest(Shift(moves)), height)
                self.assertEqual(Alone("a").fewest(Shift(moves)), size)


if __name__ == "__main__":
    unittest.main()
