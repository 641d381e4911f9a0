"""Walks, rings, turns and rounds (points 7, 10, 11 and 13, and the interface of rings.py)."""

import unittest

from checking import ErrorCase
from roundminutes import rings
from roundminutes.errors import BadNumber, BadWalk, BrokenSpan, WrongNames
from roundminutes.nets import Net
from roundminutes.rings import Base, ends, is_ring, parts, rounds, turn
from roundminutes.times import Times
from samples import MIXED, MIXED_TIMES, NET, X, Y, Z, all_times, all_walks, passes, small_nets, step_ends, walk_total

RING = [(2, 1), (0, 1), (1, 1)]

# Lists that are no walks of NET, with the index of the first bad step.
NO_WALKS = [
    ([(3, 1)], 0), ([(-1, 1)], 0), ([(-3, -1)], 0), ([(10 ** 9, 1)], 0), ([(-10 ** 9, -1)], 0),
    ([(0, 0)], 0), ([(0, 2)], 0), ([(0, -2)], 0), ([(0, 10 ** 9)], 0),
    ([(0, 1), (0, 1)], 1), ([(0, 1), (2, 1)], 1), ([(0, -1), (1, 1)], 1), ([(0, 1), (1, -1)], 1),
    ([(0, 1), (1, 1), (3, 1), (9, 9)], 2), ([(0, 1), (1, 1), (-1, 1)], 2), ([(0, 1), (1, 1), (2, 0)], 2),
    ([(0, 1), (1, 1), (2, 1), (1, 1)], 3), ([(0, 1), (2, 1), (3, 1)], 1),
]

WALKS = [
    ([(0, 1)], ("a", "b")), ([(0, -1)], ("b", "a")), ([(2, 1)], ("c", "a")), ([(0, 1), (1, 1)], ("a", "c")),
    ([(1, -1), (0, -1)], ("c", "a")), ([(0, 1), (0, -1), (2, -1)], ("a", "c")),
    ([(1, 1), (2, 1), (0, 1), (1, 1)], ("b", "c")),
]

RINGS = [
    (RING, "c"), ([(0, 1), (1, 1), (2, 1)], "a"), ([(1, -1), (0, -1), (2, -1)], "c"), ([(0, 1), (0, -1)], "a"),
    ([(0, -1), (0, 1)], "b"), (RING + RING, "c"), ([(0, 1), (1, 1), (1, -1), (0, -1)], "a"),
    ([(0, 1), (0, -1), (0, 1), (1, 1), (2, 1)], "a"),
]

NO_TIMES = [
    (Times(29, {"a": 0}), BadNumber, 29), (Times(30, {"x": 0, "a": 1}), WrongNames, "b"),
    (Times(30, {"x": 0, "a": 1, "b": 2, "c": 3}), WrongNames, "x"),
    (Times(30, {"a": 0, "b": 10, "c": 12}), BrokenSpan, 1),
]


class EndsTest(ErrorCase):

    def test_empty_walk(self):
        self.assertIs(ends(NET, []), None)
        self.assertIs(ends(Net(30, [], []), []), None)

    def test_walks_and_rings(self):
        for walk, found in WALKS:
            self.assertEqual(ends(NET, walk), found)
            self.assertIs(type(ends(NET, walk)), tuple)
        for ring, name in RINGS:
            self.assertEqual(ends(NET, ring), (name, name))

    def test_spans_between_the_same_events(self):
        self.assertEqual(ends(MIXED, [(0, 1), (2, 1), (4, 1), (3, 1)]), ("b", "c"))
        self.assertEqual(ends(MIXED, [(2, 1), (4, 1), (0, -1)]), ("a", "b"))
        self.assert_error(BadWalk, [2], ends, MIXED, [(0, 1), (2, 1), (2, 1)])

    def test_lists_that_are_no_walks(self):
        for steps, at in NO_WALKS:
            self.assert_error(BadWalk, [at], ends, NET, steps)
        self.assert_error(BadWalk, [0], ends, Net(30, ["a"], []), [(0, 1)])

    def test_steps_between_pieces(self):
        self.assert_error(BadWalk, [1], ends, MIXED, [(0, 1), (1, 1)])


class IsRingTest(unittest.TestCase):

    def test_rings(self):
        for ring, _ in RINGS:
            self.assertIs(is_ring(NET, ring), True)

    def test_no_rings(self):
        self.assertIs(is_ring(NET, []), False)
        for walk, _ in WALKS:
            self.assertIs(is_ring(NET, walk), False)
        for steps, _ in NO_WALKS:
            self.assertIs(is_ring(NET, steps), False)

    def test_spans_between_the_same_events(self):
        self.assertIs(is_ring(MIXED, [(0, 1), (2, 1)]), True)
        self.assertIs(is_ring(MIXED, [(0, 1), (4, -1)]), True)
        self.assertIs(is_ring(MIXED, [(0, 1), (4, 1)]), False)


class TurnTest(ErrorCase):

    def test_walks(self):
        self.assertEqual(turn(NET, X, []), 0)
        self.assertEqual(turn(NET, Y, [(0, 1)]), 6)
        self.assertEqual(turn(NET, Y, [(0, -1)]), -6)
        self.assertEqual(turn(NET, Y, [(0, 1), (1, 1)]), 20)
        self.assertEqual(turn(NET, Y, [(0, 1), (0, -1), (2, -1)]), -10)

    def test_rings(self):
        self.assertEqual([turn(NET, times, RING) for times in (X, Y, Z)], [30, 30, 60])
        self.assertEqual(turn(NET, Z, [(1, -1), (0, -1), (2, -1)]), -60)
        self.assertEqual(turn(NET, Z, RING + RING), 120)
        self.assertEqual(turn(NET, Z, [(0, 1), (0, -1)]), 0)

    def test_minutes_that_are_a_round_or_more(self):
        net = Net(10, ["a", "b"], [("a", "b", 9, 16, 1), ("a", "b", 2, 6, 1)])
        times = Times(10, {"a": 7, "b": 2})
        self.assertEqual((turn(net, times, [(0, 1)]), turn(net, times, [(0, 1), (1, -1)])), (15, 10))

    def test_against_the_words_of_the_document(self):
        for net in small_nets(30, "turns"):
            for times in all_times(net)[:5]:
                for walk in all_walks(net, 3):
                    total = walk_total(walk, lambda at: passes(net, times, at), lambda at: -passes(net, times, at))
                    self.assertEqual(turn(net, times, walk), total)

    def test_lists_that_are_no_walks(self):
        for steps, at in NO_WALKS:
            self.assert_error(BadWalk, [at], turn, NET, X, steps)

    def test_faults_of_the_timetable_come_first(self):
        for times, error, value in NO_TIMES:
            self.assert_error(error, [value], turn, NET, times, RING)
            self.assert_error(error, [value], turn, NET, times, [])
            self.assert_error(error, [value], turn, NET, times, [(9, 9)])


class RoundsTest(ErrorCase):

    def test_examples_of_the_interface(self):
        self.assertEqual((rounds(NET, X), rounds(NET, Z)), ([1], [2]))

    def test_net_without_rings(self):
        self.assertEqual(rounds(Net(30, [], []), Times(30, {})), [])
        self.assertEqual(rounds(Net(30, ["a", "b"], [("a", "b", 1, 9, 1)]), Times(30, {"a": 3, "b": 8})), [])

    def test_several_rings_and_pieces(self):
        # 5, 12, 15, 4, 5, 11 and 8 minutes pass on the spans.
        self.assertEqual(rounds(MIXED, MIXED_TIMES), [1, 0, 1, 1])

    def test_rounds_below_zero(self):
        net = Net(10, ["a", "b"], [("a", "b", 9, 16, 1), ("a", "b", 2, 6, 1)])
        self.assertEqual(rounds(net, Times(10, {"a": 7, "b": 2})), [-1])

    def test_faults(self):
        for times, error, value in NO_TIMES:
            self.assert_error(error, [value], rounds, NET, times)

    def test_a_new_list_each_time(self):
        rounds(NET, X).append(5)
        self.assertEqual(rounds(NET, X), [1])


class PartsTest(ErrorCase):

    def test_forward_less_backward_steps(self):
        self.assertEqual(parts(NET, RING), [1])
        self.assertEqual(parts(NET, [(1, -1), (0, -1), (2, -1)]), [-1])
        self.assertEqual(parts(NET, RING + RING), [2])
        self.assertEqual(parts(NET, [(0, 1), (0, -1)]), [0])
        self.assertEqual(parts(NET, [(2, 1), (2, -1)]), [0])

    def test_several_rings(self):
        self.assertEqual(parts(MIXED, [(2, 1), (4, 1), (2, 1), (4, 1), (0, -1), (0, 1)]), [2, 2, 0, 0])
        self.assertEqual(parts(MIXED, [(3, 1), (5, 1), (2, -1)]), [-1, 0, 1, 0])
        self.assertEqual(parts(MIXED, [(1, 1), (6, 1)]), [0, 0, 0, 1])

    def test_net_without_closing_spans(self):
        self.assertEqual(parts(Net(30, ["a", "b"], [("a", "b", 1, 9, 1)]), [(0, 1), (0, -1)]), [])

    def test_lists_that_are_no_walks(self):
        for steps, at in NO_WALKS:
            self.assert_error(BadWalk, [at], parts, NET, steps)

    def test_walks_that_are_no_rings(self):
        self.assert_error(BadWalk, [0], parts, NET, [])
        for walk, _ in WALKS:
            self.assert_error(BadWalk, [len(walk)], parts, NET, walk)

    def test_a_new_list_each_time(self):
        parts(NET, RING).append(5)
        self.assertEqual(parts(NET, RING), [1])

    def test_turn_is_the_sum_of_parts_times_rounds(self):
        for net in small_nets(40, "parts"):
            found = [walk for walk in all_walks(net, 4) if step_ends(net, walk[0])[0] == step_ends(net, walk[-1])[1]]
            shares = [parts(net, ring) for ring in found]
            for times in all_times(net)[:4]:
                numbers = rounds(net, times)
                for ring, share in zip(found, shares):
                    total = sum([part * number for part, number in zip(share, numbers)])
                    self.assertEqual(turn(net, times, ring), net.round_length * total)


class UnchangedTest(unittest.TestCase):

    def test_arguments_stay(self):
        walk = list(RING)
        for call in [lambda: ends(NET, walk), lambda: is_ring(NET, walk), lambda: turn(NET, X, walk),
                     lambda: parts(NET, walk)]:
            call()
            self.assertEqual(walk, RING)

    def test_everything_is_defined_where_it_is_listed(self):
        for thing in [Base, ends, is_ring, turn, rounds, parts]:
            self.assertEqual(thing.__module__, "roundminutes.rings")
            self.assertIs(vars(rings)[thing.__name__], thing)


if __name__ == "__main__":
    unittest.main()
