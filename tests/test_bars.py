"""Bars and what they show (points 2, 7, 21 and 24, and the interface of bars.py)."""

import unittest

from checking import ErrorCase
from roundminutes import bars
from roundminutes.bars import Bar, FixedBar, PathBar, RingBar
from roundminutes.errors import BadNumber, BrokenSpan, WrongNames
from roundminutes.nets import Net
from roundminutes.times import Times
from samples import CHAIN, CHAIN_GOAL, CHAIN_LATER, CHAIN_START, NET, X, Y, Z

RING = [(2, 1), (0, 1), (1, 1)]

# Lists of steps that are no rings of NET.
NO_RINGS = [[], [(0, 1)], [(0, 1), (1, 1)], [(3, 1)], [(-1, 1)], [(0, 0)], [(0, 1), (2, 1), (1, 1)],
            [(2, 1), (0, 1), (1, -1)], [(2, 1), (0, 1), (1, 1), (9, 1)]]

# These fix events of CHAIN for alone moves.
FIX_A = [(0, 1), (0, -1)]
FIX_B = [(0, -1), (0, 1)]
FIX_D = [(3, 1), (3, -1)]


class ClassesTest(unittest.TestCase):

    def test_kinds(self):
        self.assertEqual((Bar.KIND, RingBar.KIND, FixedBar.KIND, PathBar.KIND), ("bar", "ring", "fixed", "path"))
        made = [Bar(), RingBar([]), FixedBar("a", []), PathBar("a", "b", [], [], [])]
        self.assertEqual([bar.KIND for bar in made], ["bar", "ring", "fixed", "path"])

    def test_base_class(self):
        for kind in [RingBar, FixedBar, PathBar]:
            self.assertEqual(kind.__bases__, (Bar,))

    def test_properties(self):
        self.assertEqual(RingBar(RING).ring, RING)
        self.assertEqual((FixedBar("a", FIX_A).event, FixedBar("a", FIX_A).ring), ("a", FIX_A))
        bar = PathBar("a", "d", RING, FIX_A, FIX_D)
        self.assertEqual((bar.first, bar.second, bar.walk, bar.first_ring, bar.second_ring),
                         ("a", "d", RING, FIX_A, FIX_D))

    def test_arguments_by_name(self):
        self.assertEqual(RingBar(ring=RING).ring, RING)
        self.assertEqual(FixedBar(event="a", ring=[]).event, "a")
        self.assertEqual(PathBar(first="a", second="d", walk=RING, first_ring=[], second_ring=FIX_D).second_ring, FIX_D)

    def test_constructors_examine_nothing(self):
        self.assertEqual(RingBar([(-7, 5), (0, 0)]).ring, [(-7, 5), (0, 0)])
        self.assertEqual(FixedBar("", [(9, 9)]).event, "")
        self.assertEqual(PathBar("X", "1", [], [(9, 9)], []).first_ring, [(9, 9)])

    def test_copies(self):
        lists = [list(RING), list(FIX_A), list(FIX_D)]
        made = [RingBar(lists[0]), FixedBar("a", lists[1]), PathBar("a", "d", *lists)]
        for steps in lists:
            steps.append((7, 7))
        made[0].ring.clear()
        made[1].ring.clear()
        for steps in [made[2].walk, made[2].first_ring, made[2].second_ring]:
            steps.append((8, 8))
        self.assertEqual([made[0].ring, made[1].ring], [RING, FIX_A])
        self.assertEqual([made[2].walk, made[2].first_ring, made[2].second_ring], [RING, FIX_A, FIX_D])

    def test_everything_is_defined_where_it_is_listed(self):
        listed = [(Bar, []), (RingBar, ["ring"]), (FixedBar, ["event", "ring"]),
                  (PathBar, ["first", "second", "walk", "first_ring", "second_ring"])]
        for kind, names in listed:
            self.assertEqual(kind.__module__, "roundminutes.bars")
            self.assertIs(vars(bars)[kind.__name__], kind)
            for name in ["KIND", *names] + (["__init__", "shows"] if names else []):
                self.assertIn(name, vars(kind))


class ShowsCase(ErrorCase):

    def assert_shows(self, shown, bar, net, start, goal, *, held=(), alone=False):
        self.assertIs(bar.shows(net, start, goal, held=held, alone=alone), shown)


class RingBarTest(ShowsCase):

    def test_other_turns(self):
        for ring in [RING, RING + RING, [(1, -1), (0, -1), (2, -1)], [(0, 1), (1, 1), (2, 1)],
                     [(0, 1), (0, -1), (0, 1), (1, 1), (2, 1)]]:
            self.assert_shows(True, RingBar(ring), NET, X, Z)
            self.assert_shows(True, RingBar(ring), NET, Z, Y)

    def test_equal_turns(self):
        for ring in [RING, RING + RING, [(0, 1), (0, -1)]]:
            self.assert_shows(False, RingBar(ring), NET, X, Y)
            self.assert_shows(False, RingBar(ring), NET, X, X)
        self.assert_shows(False, RingBar([(0, 1), (0, -1)]), NET, X, Z)
        self.assert_shows(False, RingBar(RING + [(1, -1), (0, -1), (2, -1)]), NET, X, Z)

    def test_lists_that_are_no_rings(self):
        for steps in NO_RINGS:
            self.assert_shows(False, RingBar(steps), NET, X, Z)
            self.assert_shows(False, RingBar(steps), NET, X, Z, held=["a", "b", "c"], alone=True)

    def test_held_events_and_manner_do_not_count(self):
        for held in [(), ("a",), ["b", "x"]]:
            for alone in [False, True]:
                self.assert_shows(True, RingBar(RING), NET, X, Z, held=held, alone=alone)
                self.assert_shows(False, RingBar(RING), NET, X, Y, held=held, alone=alone)

    def test_without_names(self):
        self.assertIs(RingBar(RING).shows(NET, X, Z), True)


class FixedBarTest(ShowsCase):

    def test_held_event(self):
        for alone in [False, True]:
            for held in [("b",), ["b"], ["x", "", "b", "b"]]:
                self.assert_shows(True, FixedBar("b", []), NET, X, Y, held=held, alone=alone)
            for held in [(), ["a"], ["x"], ["B"]]:
                self.assert_shows(False, FixedBar("b", []), NET, X, Y, held=held, alone=alone)
        self.assertIs(FixedBar("b", []).shows(NET, X, Y), False)

    def test_held_event_with_the_same_minute(self):
        for name in ["a", "c"]:
            self.assert_shows(False, FixedBar(name, []), NET, X, Y, held=["a", "b", "c"])

    def test_names_that_are_no_events(self):
        for name in ["x", "", "B"]:
            for alone in [False, True]:
                self.assert_shows(False, FixedBar(name, []), NET, X, Y, held=[name, "b"], alone=alone)
                self.assert_shows(False, FixedBar(name, FIX_A), CHAIN, CHAIN_START, CHAIN_LATER, held=[name],
                                  alone=alone)

    def test_slackless_ring_fixes_for_alone_moves(self):
        for name, ring in [("a", FIX_A), ("b", FIX_B), ("a", FIX_A + FIX_A), ("d", FIX_D)]:
            self.assert_shows(True, FixedBar(name, ring), CHAIN, CHAIN_START, CHAIN_LATER, alone=True)
            self.assert_shows(False, FixedBar(name, ring), CHAIN, CHAIN_START, CHAIN_LATER, alone=False)
            self.assert_shows(False, FixedBar(name, ring), CHAIN, CHAIN_START, CHAIN_LATER, held=[name])
            self.assertIs(FixedBar(name, ring).shows(CHAIN, CHAIN_START, CHAIN_LATER), False)
            self.assert_shows(True, FixedBar(name, ring), CHAIN, CHAIN_START, CHAIN_LATER, held=[name], alone=True)

    def test_slackless_ring_with_the_same_minute(self):
        self.assert_shows(False, FixedBar("a", FIX_A), CHAIN, CHAIN_START, CHAIN_GOAL, alone=True)

    def test_ring_begins_at_another_event(self):
        for name, ring in [("a", FIX_B), ("b", FIX_A), ("e", FIX_D), ("c", FIX_A)]:
            self.assert_shows(False, FixedBar(name, ring), CHAIN, CHAIN_START, CHAIN_LATER, alone=True)

    def test_ring_with_slack(self):
        for name, ring in [("b", [(1, 1), (1, -1)]), ("a", [(0, 1), (1, 1), (1, -1), (0, -1)])]:
            self.assert_shows(False, FixedBar(name, ring), CHAIN, CHAIN_START, CHAIN_LATER, alone=True)

    def test_slack_at_the_start_counts(self):
        # With the rounds of Z all spans are at their most.
        net = Net(30, ["a", "b", "c"], [("a", "b", 5, 20, 1), ("b", "c", 5, 20, 1), ("c", "a", 5, 20, 1)])
        bar = FixedBar("b", [(1, 1), (2, 1), (0, 1)])
        self.assert_shows(True, bar, net, Z, X, alone=True)
        self.assert_shows(False, bar, net, X, Z, alone=True)

    def test_lists_that_are_no_rings(self):
        for steps in [[(0, 1)], [(0, 1), (1, 1)], [(4, 1)], [(-1, 1), (-1, -1)], [(0, 0)], [(0, 1), (0, 1)],
                      [(0, 1), (3, 1)]]:
            for held in [(), ("a",)]:
                for alone in [False, True]:
                    self.assert_shows(False, FixedBar("a", steps), CHAIN, CHAIN_START, CHAIN_LATER, held=held,
                                      alone=alone)


class PathBarTest(ShowsCase):

    def test_held_events(self):
        walk = [(1, 1), (2, 1)]
        for alone in [False, True]:
            for held in [["b", "d"], ("d", "x", "b")]:
                self.assert_shows(True, PathBar("b", "d", walk, [], []), CHAIN, CHAIN_START, CHAIN_GOAL, held=held,
                                  alone=alone)
                self.assert_shows(False, PathBar("b", "d", walk, [], []), CHAIN, CHAIN_START, CHAIN_LATER, held=held,
                                  alone=alone)
            for held in [(), ["b"], ["d"], ["x", "a"]]:
                self.assert_shows(False, PathBar("b", "d", walk, [], []), CHAIN, CHAIN_START, CHAIN_GOAL, held=held,
                                  alone=alone)

    def test_walk_backward_and_longer(self):
        for first, second, walk in [("d", "b", [(2, -1), (1, -1)]), ("a", "e", [(0, 1), (1, 1), (2, 1), (3, 1)]),
                                    ("b", "d", [(0, -1), (0, 1), (1, 1), (2, 1)])]:
            self.assert_shows(True, PathBar(first, second, walk, [], []), CHAIN, CHAIN_START, CHAIN_GOAL,
                              held=[first, second])

    def test_rings_fix_for_alone_moves(self):
        walk = [(1, 1), (2, 1)]
        for alone in [False, True]:
            self.assert_shows(alone, PathBar("b", "d", walk, FIX_B, FIX_D), CHAIN, CHAIN_START, CHAIN_GOAL, alone=alone)
            self.assert_shows(alone, PathBar("b", "d", walk, FIX_B, []), CHAIN, CHAIN_START, CHAIN_GOAL, held=["d"],
                              alone=alone)
            self.assert_shows(alone, PathBar("b", "d", walk, [], FIX_D), CHAIN, CHAIN_START, CHAIN_GOAL, held=["b"],
                              alone=alone)
            self.assert_shows(False, PathBar("b", "d", walk, FIX_A, FIX_D), CHAIN, CHAIN_START, CHAIN_GOAL, alone=alone)
            self.assert_shows(False, PathBar("b", "d", walk, FIX_B, FIX_A), CHAIN, CHAIN_START, CHAIN_GOAL, alone=alone)
            self.assert_shows(False, PathBar("b", "d", walk, FIX_B, []), CHAIN, CHAIN_START, CHAIN_GOAL, held=["b"],
                              alone=alone)
            self.assert_shows(False, PathBar("b", "d", walk, [(1, 1), (1, -1)], FIX_D), CHAIN, CHAIN_START, CHAIN_GOAL,
                              alone=alone)

    def test_lists_that_are_no_walk_between_the_events(self):
        walks = [("b", "d", []), ("b", "b", []), ("b", "d", [(1, 1)]), ("b", "d", [(2, -1), (1, -1)]),
                 ("b", "d", [(1, 1), (2, 2)]), ("b", "d", [(1, 1), (4, 1)]), ("b", "d", [(-3, 1)]),
                 ("b", "d", [(1, 1), (3, 1)]), ("d", "b", [(1, 1), (2, 1)]), ("x", "y", []),
                 ("x", "d", [(1, 1), (2, 1)])]
        for first, second, walk in walks:
            self.assert_shows(False, PathBar(first, second, walk, [], []), CHAIN, CHAIN_START, CHAIN_GOAL,
                              held=["b", "d", "x", "y"])

    def test_equal_events(self):
        # A ring is a walk from an event to itself.
        self.assert_shows(True, PathBar("c", "c", RING, [], []), NET, X, Z, held=["c"])
        self.assert_shows(False, PathBar("c", "c", RING, [], []), NET, X, Y, held=["c"])
        self.assert_shows(False, PathBar("c", "c", RING, [], []), NET, X, Z, held=["a"])

    def test_without_names(self):
        for first_ring, second_ring in [([], []), (FIX_B, FIX_D)]:
            bar = PathBar("b", "d", [(1, 1), (2, 1)], first_ring, second_ring)
            self.assertIs(bar.shows(CHAIN, CHAIN_START, CHAIN_GOAL), False)


class FaultsTest(ErrorCase):

    def test_start_then_goal(self):
        broken = Times(30, {"a": 0, "b": 4, "c": 20})
        for bar in [RingBar(RING), RingBar([]), FixedBar("x", []), FixedBar("b", [(9, 9)]),
                    PathBar("a", "c", [(0, 1), (1, 1)], [], []), PathBar("x", "y", [(9, 9)], [(9, 9)], [])]:
            self.assert_error(BrokenSpan, [0], bar.shows, NET, broken, Times(29, {}))
            self.assert_error(BadNumber, [29], bar.shows, NET, Times(29, {}), broken)
            self.assert_error(WrongNames, ["a"], bar.shows, NET, Times(30, {}), Times(29, {}))
            self.assert_error(BadNumber, [29], bar.shows, NET, X, Times(29, {}), held=["x"], alone=True)
            self.assert_error(WrongNames, ["x"], bar.shows, NET, X, Times(30, {**X.minutes, "x": 1}))
            self.assert_error(BrokenSpan, [0], bar.shows, NET, X, broken)

    def test_held_and_alone_are_passed_by_name_only(self):
        for bar in [RingBar(RING), FixedBar("b", []), PathBar("a", "b", [], [], [])]:
            with self.assertRaises(TypeError):
                bar.shows(NET, X, Y, ["b"])


if __name__ == "__main__":
    unittest.main()
