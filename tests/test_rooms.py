"""Islands and what they let (points 7, 14, 16, 17 and 19, and the interface of rooms.py)."""

import itertools
import unittest

from checking import ErrorCase
from roundminutes.errors import BadNumber, BadWalk, BrokenSpan, UnknownEvent, WrongNames
from roundminutes.nets import Net
from roundminutes.rings import ends, rounds
from roundminutes.rooms import Island
from roundminutes.shifts import Shift, middle
from roundminutes.times import Times
from samples import MIXED, MIXED_TIMES, NET, X, Y, Z, all_times, all_walks, passes, slack_of, small_nets

# a and b cannot be moved against each other, nor can d and e; c and f can.
RIGID = Net(30, ["e", "a", "c", "b", "d", "f"], [
    ("a", "b", 10, 10, 1), ("b", "c", 5, 25, 1), ("d", "e", 3, 20, 1), ("d", "e", 0, 3, 1), ("c", "f", 8, 20, 1)])
RIGID_TIMES = Times(30, {"a": 0, "b": 10, "c": 20, "d": 0, "e": 3, "f": 0})


def rigid_island():
    """On both spans from d to e pass 3 minutes, the least of one and the most of the other."""
    return Island(RIGID, RIGID_TIMES)


class IslandTest(ErrorCase):

    def test_properties(self):
        island = Island(NET, Z)
        self.assertEqual((island.net, island.times, island.rounds, island.groups), (NET, Z, [2], [["a"], ["b"], ["c"]]))
        island = Island(MIXED, MIXED_TIMES)
        self.assertEqual((island.net, island.times, island.rounds), (MIXED, MIXED_TIMES, [1, 0, 1, 1]))

    def test_net_without_anything(self):
        island = Island(Net(30, [], []), Times(30, {}))
        self.assertEqual((island.rounds, island.groups, island.lets(Shift({}))), ([], [], True))
        self.assertEqual(island.slack([]), 0)

    def test_faults(self):
        self.assert_error(BadNumber, [29], Island, NET, Times(29, {"x": 0}))
        self.assert_error(WrongNames, ["b"], Island, NET, Times(30, {"x": 0, "a": 1}))
        self.assert_error(WrongNames, ["x"], Island, NET, Times(30, {**X.minutes, "x": 0}))
        self.assert_error(BrokenSpan, [1], Island, NET, Times(30, {"a": 0, "b": 10, "c": 12}))

    def test_later_changes_of_what_is_returned(self):
        island = rigid_island()
        island.rounds.append(5)
        island.groups.append(["x"])
        island.groups[0].clear()
        island.chain("a", "c").clear()
        island.slackless_ring("a").clear()
        self.assertEqual((island.rounds, island.groups[0]), ([0], ["e", "d"]))
        self.assertEqual((len(island.chain("a", "c")), len(island.slackless_ring("a"))), (2, 2))

    def test_everything_is_defined_in_the_class(self):
        self.assertEqual(Island.__module__, "roundminutes.rooms")
        for name in ["__init__", "net", "times", "rounds", "groups", "__contains__", "lets", "slack", "room", "chain",
                     "slackless_ring", "push", "limits"]:
            self.assertIn(name, vars(Island))


class MembershipTest(unittest.TestCase):

    def test_same_rounds(self):
        island = Island(NET, X)
        for times, member in [(X, True), (Y, True), (X >> 7, True), (Z, False), (Z << 9, False)]:
            self.assertIs(times in island, member)
            self.assertIs(times in Island(NET, Z), not member)

    def test_order_of_the_names_does_not_count(self):
        self.assertIs(Times(30, {"c": 20, "b": 6, "a": 0}) in Island(NET, X), True)

    def test_timetables_that_do_not_keep_the_net(self):
        island = Island(NET, X)
        for times in [Times(31, X.minutes), Times(30, {"a": 0, "b": 10}), Times(30, {**X.minutes, "d": 0}),
                      Times(30, {"a": 0, "b": 4, "c": 20}), Times(30, {})]:
            self.assertIs(times in island, False)

    def test_against_the_words_of_the_document(self):
        for net in small_nets(60, "members"):
            found = all_times(net)
            for times in found[:3]:
                island = Island(net, times)
                self.assertEqual(island.rounds, rounds(net, times))
                for other in found[-40:]:
                    self.assertIs(other in island, rounds(net, other) == rounds(net, times))


class LetsTest(ErrorCase):

    def test_at_and_beyond_the_bounds(self):
        island = Island(NET, X)
        for moves, let in [({"b": 5}, True), ({"b": 6}, False), ({"b": -5}, True), ({"b": -6}, False), ({}, True),
                           ({"b": 12, "a": 2, "c": 7}, True), ({"b": 12, "a": 1, "c": 7}, False),
                           ({"b": 12, "a": 2, "c": 6}, False), ({"a": 10 ** 6, "b": 10 ** 6, "c": 10 ** 6}, True),
                           ({"b": 30}, False), ({"a": -30, "b": -30}, False)]:
            with self.subTest(moves):
                self.assertIs(island.lets(Shift(moves)), let)

    def test_other_pieces_are_free(self):
        self.assertIs(Island(MIXED, MIXED_TIMES).lets(Shift({"f": -999, "b": 7, "a": 7, "c": 7})), True)

    def test_first_unknown_name_in_ascending_order(self):
        island = Island(NET, X)
        self.assert_error(UnknownEvent, ["d"], island.lets, Shift({"e": 1, "d": 1, "b": 99}))
        self.assert_error(UnknownEvent, ["aa"], island.lets, Shift({"d": 1, "aa": 1}))
        self.assertIs(island.lets(Shift({"d": 0})), True)

    def test_against_the_words_of_the_document(self):
        for net in small_nets(40, "lets"):
            for times in all_times(net)[:2]:
                island = Island(net, times)
                for entries in itertools.product([-2, -1, 0, 1, 3], repeat=len(net)):
                    shift = Shift(dict(zip(net, entries)))
                    let = all(least <= passes(net, times, number) + shift[end] - shift[start] <= most
                              for number, (start, end, least, most, _) in enumerate(net.spans))
                    self.assertIs(island.lets(shift), let)
                    if let:
                        self.assertIs(times + shift in island, True)

    def test_every_timetable_of_the_island_is_reached(self):
        for net in small_nets(40, "reached"):
            found = all_times(net)
            for times in found[:2]:
                island = Island(net, times)
                for other in [other for other in found if other in island][:30]:
                    self.assertIs(island.lets(way_to(island, other)), True)
                    self.assertEqual(times + way_to(island, other), other)

    def test_joined_shifts_and_means_are_let(self):
        for net in small_nets(40, "means"):
            for times in all_times(net)[:1]:
                island = Island(net, times)
                every = [Shift(dict(zip(net, entries)))
                         for entries in itertools.product([-1, 0, 2], repeat=len(net))]
                let = [shift for shift in every if island.lets(shift)][:6]
                for a, b, c in itertools.product(let, repeat=3):
                    for shift in [a | b, a & b, middle(a, b, c), (a + b) // 2, (a + b + c) // 3]:
                        self.assertIs(island.lets(shift), True)


def way_to(island, other):
    """The shift to another timetable of the island that grows along the spans as the minutes that pass do."""
    moves = {}
    for piece in island.net.pieces:
        moves[piece[0]] = other[piece[0]] - island.times[piece[0]]
        while len([name for name in piece if name in moves]) < len(piece):
            for number, (start, end, *_) in enumerate(island.net.spans):
                growth = passes(island.net, other, number) - passes(island.net, island.times, number)
                if start in moves and end not in moves:
                    moves[end] = moves[start] + growth
                if end in moves and start not in moves:
                    moves[start] = moves[end] - growth
    return Shift(moves)


class SlackTest(ErrorCase):

    def test_steps(self):
        island = Island(NET, Y)
        self.assertEqual([island.slack([(number, 1)]) for number in range(3)], [19, 11, 15])
        self.assertEqual([island.slack([(number, -1)]) for number in range(3)], [1, 9, 5])

    def test_walks(self):
        island = Island(NET, Y)
        self.assertEqual(island.slack([]), 0)
        self.assertEqual(island.slack([(0, 1), (1, 1), (2, 1)]), 45)
        self.assertEqual(island.slack([(1, -1), (0, -1), (2, -1)]), 15)
        self.assertEqual(island.slack([(0, 1), (0, -1), (0, 1)]), 39)

    def test_lists_that_are_no_walks(self):
        island = Island(NET, X)
        for steps, at in [([(3, 1)], 0), ([(-1, 1)], 0), ([(0, 0)], 0), ([(0, 1), (2, 1)], 1)]:
            self.assert_error(BadWalk, [at], island.slack, steps)


class RoomTest(ErrorCase):

    def test_example_of_the_interface(self):
        self.assertEqual(Island(NET, X).room("a", "b"), 10)

    def test_least_of_several_ways(self):
        island = Island(NET, X)
        # Straight on 15 minutes, or 5 + 5 by way of c.
        self.assertEqual(island.chain("a", "b"), [(2, -1), (1, -1)])
        self.assertEqual([island.room(first, second) for first, second in ["ba", "bc", "ca", "ac"]], [5, 10, 10, 5])

    def test_equal_events(self):
        for island, names in [(Island(NET, X), "abc"), (rigid_island(), "abcdef"), (Island(MIXED, MIXED_TIMES), "f")]:
            for name in names:
                self.assertEqual((island.room(name, name), island.chain(name, name)), (0, []))

    def test_different_pieces(self):
        island = Island(MIXED, MIXED_TIMES)
        for first, second in ["ae", "ea", "fa", "bf", "dc"]:
            self.assertIs(island.room(first, second), None)
            self.assertIs(island.chain(first, second), None)

    def test_unknown_events(self):
        island = Island(NET, X)
        for call in [island.room, island.chain]:
            self.assert_error(UnknownEvent, ["x"], call, "x", "y")
            self.assert_error(UnknownEvent, ["x"], call, "x", "a")
            self.assert_error(UnknownEvent, ["y"], call, "a", "y")
            self.assert_error(UnknownEvent, ["x"], call, "x", "x")

    def test_least_slack_of_all_walks(self):
        for net in small_nets(60, "rooms"):
            walks = all_walks(net, len(net) - 1)
            for times in all_times(net)[:2]:
                island = Island(net, times)
                found = {(name, name): 0 for name in net}
                for walk in walks:
                    slack, bounds = slack_of(net, times, walk), ends(net, walk)
                    self.assertEqual(island.slack(walk), slack)
                    found[bounds] = min(found.get(bounds, slack), slack)
                for first, second in itertools.product(net, repeat=2):
                    self.assertEqual(island.room(first, second), found.get((first, second)))

    def test_chains_show_the_rooms(self):
        for net in [*small_nets(60, "chains"), MIXED]:
            for times in [MIXED_TIMES] if net == MIXED else all_times(net)[:2]:
                island = Island(net, times)
                for first, second in itertools.product(net, repeat=2):
                    walk = island.chain(first, second)
                    if walk:
                        self.assertEqual(ends(net, walk), (first, second))
                        self.assertEqual(slack_of(net, times, walk), island.room(first, second))
                    else:
                        self.assertEqual(walk == [], first == second)

    def test_the_room_is_reached_but_not_passed(self):
        for net in small_nets(60, "reach"):
            for times in all_times(net)[:2]:
                island = Island(net, times)
                for piece in net.pieces:
                    for first, second in itertools.product(piece, repeat=2):
                        full = Shift({name: island.room(first, name) for name in piece})
                        self.assertIs(island.lets(full), True)
                        self.assertEqual((full[first], full[second]), (0, island.room(first, second)))


class GroupsTest(ErrorCase):

    def test_groups_in_the_order_of_their_first_events(self):
        self.assertEqual(rigid_island().groups, [["e", "d"], ["a", "b"], ["c"], ["f"]])
        self.assertEqual(Island(NET, X).groups, [["a"], ["b"], ["c"]])

    def test_a_ring_can_make_a_group(self):
        net = Net(30, ["a", "b", "c"], [("a", "b", 5, 10, 1), ("b", "c", 5, 20, 1), ("c", "a", 10, 15, 1)])
        times = Times(30, {"a": 0, "b": 7, "c": 15})
        self.assertEqual(Island(net, times).groups, [["a"], ["b"], ["c"]])
        net = net.changed(2, least=15, most=15)
        self.assertEqual(Island(net, times).groups, [["a", "c"], ["b"]])
        self.assertEqual(Island(net.changed(1, least=8, most=8), times).groups, [["a", "b", "c"]])
        # All spans but the last are at their least, and that one at its most.
        self.assertEqual(Island(net.changed(1, least=10, most=20), Times(30, {"a": 0, "b": 5, "c": 15})).groups,
                         [["a", "b", "c"]])

    def test_groups_hold_in_the_whole_island(self):
        for net in small_nets(60, "groups"):
            found = all_times(net)
            for times in found[:2]:
                island = Island(net, times)
                self.assertEqual(sorted(sum(island.groups, [])), sorted(net))
                for first, second in itertools.product(net, repeat=2):
                    together = any(first in group and second in group for group in island.groups)
                    there, back = island.room(first, second), island.room(second, first)
                    self.assertEqual(together, there is not None and there + back == 0)

    def test_slackless_rings(self):
        island = rigid_island()
        for name in ["a", "b", "d", "e"]:
            ring = island.slackless_ring(name)
            self.assertEqual(ends(RIGID, ring), (name, name))
            self.assertEqual(island.slack(ring), 0)
        for name in ["c", "f"]:
            self.assertEqual(island.slackless_ring(name), [])
        self.assertEqual(Island(NET, X).slackless_ring("a"), [])

    def test_slackless_rings_of_all_events_in_groups(self):
        found = 0
        for net in small_nets(60, "slackless"):
            for times in all_times(net)[:2]:
                island = Island(net, times)
                for group in island.groups:
                    for name in group:
                        ring = island.slackless_ring(name)
                        self.assertEqual(ring == [], len(group) == 1)
                        if ring:
                            found += 1
                            self.assertEqual((ends(net, ring), slack_of(net, times, ring)), ((name, name), 0))
        self.assertGreater(found, 20)

    def test_unknown_event(self):
        self.assert_error(UnknownEvent, ["x"], Island(NET, X).slackless_ring, "x")


if __name__ == "__main__":
    unittest.main()
