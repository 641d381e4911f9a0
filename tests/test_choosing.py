"""Rounds that timetables can have (point 15, and the interface of choosing.py)."""

import unittest

from checking import ErrorCase
from roundminutes import choosing
from roundminutes.choosing import choices, islands, times_of
from roundminutes.errors import ShutRing, TooMany, WrongCount
from roundminutes.nets import Net
from roundminutes.passing import check_times
from roundminutes.rings import Base, is_ring, parts, rounds
from roundminutes.times import Times
from samples import MIXED, MIXED_TIMES, NET, all_times, greatest_turn, passes, small_nets, walk_total

NAMES = ["a", "b", "c", "d", "e", "f", "g", "h", "i", "j", "k", "l"]

# The ring gives 10 - 5 minutes in any case.
NO_CHOICE = Net(30, ["a", "b"], [("a", "b", 5, 5, 1), ("a", "b", 10, 10, 1)])


def ladder(*heights):
    """A row of events whose spans let 0 to 117 minutes of 120, and a span back over each of these numbers of them.

    The ring of a height of k has turns from 0 to 117 * k.
    """
    rows = [(start, end, 0, 117, 1) for start, end in zip(NAMES, NAMES[1:])]
    return Net(120, NAMES, rows + [(NAMES[height], NAMES[0], 0, 0, 1) for height in heights])


def tree_sums(net, times):
    """The sums along the tree spans from the first event of each piece, by event."""
    base = Base(net)
    return {name: walk_total(base.path(piece[0], name), lambda at: passes(net, times, at),
                             lambda at: -passes(net, times, at)) for piece in net.pieces for name in piece}


class ChoicesTest(unittest.TestCase):

    def test_several_choices(self):
        self.assertEqual(choices(NET), [(1, 2)])
        self.assertEqual(choices(ladder(11, 10, 1)), [(0, 10), (0, 9), (0, 0)])

    def test_one_choice_at_the_bounds(self):
        net = Net(30, ["a", "b"], [("a", "b", 5, 10, 1), ("b", "a", 20, 25, 1)])
        self.assertEqual(choices(net), [(1, 1)])
        self.assertEqual(choices(net.changed(1, least=10, most=20)), [(1, 1)])
        self.assertEqual(choices(net.changed(1, least=25, most=40)), [(1, 1)])

    def test_no_choice(self):
        self.assertEqual(choices(NO_CHOICE), [(1, 0)])
        net = Net(30, ["a", "b"], [("a", "b", 5, 10, 1), ("b", "a", 10, 19, 1)])
        self.assertEqual(choices(net), [(1, 0)])

    def test_choices_below_zero(self):
        net = Net(10, ["a", "b"], [("a", "b", 9, 16, 1), ("a", "b", 1, 6, 1)])
        self.assertEqual(choices(net), [(-1, -1)])

    def test_without_rings(self):
        self.assertEqual(choices(Net(30, [], [])), [])
        self.assertEqual(choices(Net(30, ["a", "b"], [("a", "b", 5, 5, 1)])), [])

    def test_against_the_words_of_the_document(self):
        for net in [*small_nets(150, "choices"), MIXED]:
            for (low, high), ring in zip(choices(net), Base(net).rings):
                back = [(number, -direction) for number, direction in ring]
                least, greatest = -greatest_turn(net, back), greatest_turn(net, ring)
                wide = range(-100, 100)
                self.assertEqual(low, min([r for r in wide if r * net.round_length >= least]))
                self.assertEqual(high, max([r for r in wide if r * net.round_length <= greatest]))

    def test_list_of_tuples_new_each_time(self):
        choices(NET).clear()
        self.assertEqual((type(choices(NET)), type(choices(NET)[0])), (list, tuple))


class TimesOfTest(ErrorCase):

    def test_example_of_the_interface(self):
        times = times_of(NET, [2])
        self.assertIs(type(times), Times)
        self.assertEqual((times.round_length, list(times.minutes.items())), (30, [("a", 0), ("b", 10), ("c", 5)]))
        self.assertEqual(times_of(NET, [1]).minutes, {"a": 0, "b": 5, "c": 10})

    def test_without_rings(self):
        net = Net(30, ["c", "a", "d", "b"], [("b", "a", 7, 9, 1), ("d", "b", 29, 40, 1)])
        self.assertEqual(list(times_of(net, []).minutes.items()), [("c", 0), ("a", 0), ("d", 11), ("b", 21)])
        self.assertEqual(times_of(Net(30, [], []), []), Times(30, {}))

    def test_earliest_of_all(self):
        for net in small_nets(120, "earliest"):
            found = {}
            for times in all_times(net):
                if all(times[piece[0]] == 0 for piece in net.pieces):
                    found.setdefault(tuple(rounds(net, times)), []).append(times)
            for numbers, group in found.items():
                times = times_of(net, list(numbers))
                self.assertEqual(list(times), net.events)
                self.assertIn(times, group)
                sums = tree_sums(net, times)
                for other in group:
                    others = tree_sums(net, other)
                    self.assertTrue(all(sums[name] <= others[name] for name in net))

    def test_rounds_that_no_timetable_has(self):
        for net, numbers in [(NET, [0]), (NET, [3]), (NET, [-1]), (NET, [10 ** 9]), (NET, [-10 ** 9]),
                             (NO_CHOICE, [0]), (NO_CHOICE, [1]), (MIXED, [1, 0, 1, 5]), (MIXED, [0, 0, 1, 1]),
                             (MIXED, [10 ** 9, -10 ** 9, 7, 1])]:
            self.assert_shut(net, numbers)

    def test_either_a_timetable_or_a_ring_that_shuts_the_rounds_out(self):
        shut = 0
        for net in small_nets(120, "shut"):
            possible = {tuple(rounds(net, times)) for times in all_times(net)}
            wide = [[]]
            for low, high in choices(net):
                wide = [[*row, number] for row in wide for number in range(low - 1, high + 2)]
            for numbers in wide[:200]:
                if tuple(numbers) in possible:
                    self.assertEqual(rounds(net, times_of(net, numbers)), numbers)
                else:
                    shut += 1
                    self.assert_shut(net, numbers)
        self.assertGreater(shut, 100)

    def test_shut_out_although_each_ring_has_a_choice(self):
        # Each base ring alone lets these rounds, but not both together.
        net = Net(10, ["a", "b"], [("a", "b", 0, 7, 1), ("b", "a", 0, 3, 1), ("b", "a", 8, 11, 1)])
        self.assertEqual(choices(net), [(0, 1), (1, 1)])
        self.assert_shut(net, [1, 1])

    def assert_shut(self, net, numbers):
        """The error has a ring whose greatest turn is too small for the rounds."""
        with self.assertRaises(ShutRing) as caught:
            times_of(net, numbers)
        ring = caught.exception.way
        self.assertIs(type(ring), list)
        self.assertIs(is_ring(net, ring), True)
        total = sum([part * number for part, number in zip(parts(net, ring), numbers)])
        self.assertLess(greatest_turn(net, ring), net.round_length * total)

    def test_wrong_count(self):
        for numbers in [[], [1, 1], [9, 9, 9]]:
            self.assert_error(WrongCount, [len(numbers), 1], times_of, NET, numbers)
        self.assert_error(WrongCount, [1, 0], times_of, Net(30, [], []), [0])
        self.assert_error(WrongCount, [3, 4], times_of, MIXED, [1, 0, 1])

    def test_list_passed_in_stays(self):
        numbers = [2]
        times_of(NET, numbers)
        self.assertEqual(numbers, [2])


class IslandsTest(ErrorCase):

    def test_examples(self):
        self.assertEqual(islands(NET), [[1], [2]])
        self.assertIn(rounds(MIXED, MIXED_TIMES), islands(MIXED))

    def test_without_base_rings(self):
        self.assertEqual(islands(Net(30, [], [])), [[]])
        self.assertEqual(islands(Net(30, ["a", "b"], [("a", "b", 5, 5, 1)])), [[]])

    def test_ring_without_a_choice(self):
        self.assertEqual(islands(NO_CHOICE), [])

    def test_no_timetable_although_each_ring_has_a_choice(self):
        net = Net(10, ["a", "b"], [("a", "b", 0, 7, 1), ("b", "a", 0, 3, 1), ("b", "a", 8, 11, 1)])
        self.assertEqual(islands(net), [[0, 1]])

    def test_all_rounds_in_ascending_order(self):
        several = 0
        for net in small_nets(120, "islands"):
            found = sorted({tuple(rounds(net, times)) for times in all_times(net)})
            self.assertEqual(islands(net), [list(row) for row in found])
            several += len(found) > 1
        self.assertGreater(several, 10)

    def test_at_most_four_hundred(self):
        net = ladder(10, 10, 4)
        self.assertEqual(choices(net), [(0, 9), (0, 9), (0, 3)])
        found = islands(net)
        self.assertEqual(found, [[r, r, s] for r in range(10) for s in range(4) if self.is_kept(net, [r, r, s])])
        self.assertGreater(len(found), 10)

    def is_kept(self, net, numbers):
        try:
            check_times(net, times_of(net, numbers))
        except ShutRing:
            return False
        return True

    def test_more_than_four_hundred(self):
        self.assert_error(TooMany, [405, 400], islands, ladder(9, 9, 5))
        self.assert_error(TooMany, [500, 400], islands, ladder(10, 10, 5))
        self.assert_error(TooMany, [11 ** 13, 400], islands, ladder(*[11] * 13))

    def test_a_ring_without_a_choice_among_many(self):
        net = ladder(*[11] * 11).with_span("a", "b", 1, 1).changed(0, least=0, most=0)
        self.assertEqual(choices(net)[11:], [(1, 0)])
        self.assertEqual(islands(net), [])

    def test_new_lists_each_time(self):
        found = islands(NET)
        found[0].append(7)
        found.clear()
        self.assertEqual(islands(NET), [[1], [2]])

    def test_everything_is_defined_where_it_is_listed(self):
        for thing in [choices, times_of, islands]:
            self.assertEqual(thing.__module__, "roundminutes.choosing")
            self.assertIs(vars(choosing)[thing.__name__], thing)


if __name__ == "__main__":
    unittest.main()
