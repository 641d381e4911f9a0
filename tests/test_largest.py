"""The largest nets that the document allows are answered in well under a second each."""

import random
import time
import unittest

from roundminutes.bars import FixedBar, PathBar, RingBar
from roundminutes.choosing import choices, islands, times_of
from roundminutes.commands import replay, run
from roundminutes.desk import Desk
from roundminutes.errors import Barred, ShutRing, TooMany
from roundminutes.manners import Alone, Daily
from roundminutes.nets import Net
from roundminutes.passes import easiest_pass
from roundminutes.rings import Base, parts, rounds, turn
from roundminutes.rooms import Island
from roundminutes.shifts import Shift
from roundminutes.texts import read_net, read_shift, read_times, read_walk, write_net, write_shift, write_times, write_walk
from roundminutes.times import Times
from roundminutes.waiting import least_waits

NAMES = list("abcdefghijkl")
SECONDS = 0.5


def span_around(chance, round_length, minutes, width):
    """A span of this width between two of the events that the minutes keep."""
    start, end = chance.sample(NAMES, 2)
    least = (minutes[end] - minutes[start] - chance.randrange(width + 1)) % round_length
    return (start, end, least, least + width, chance.randrange(100))


def large_nets():
    """Nets with 12 events and 24 spans, each with a timetable that keeps it."""
    chance = random.Random("large")
    found = []
    for round_length, width in [(120, 117), (120, 60), (120, 0), (60, 20), (3, 0), (4, 1), (10, 7)] * 3:
        minutes = {name: chance.randrange(round_length) for name in NAMES}
        spans = [span_around(chance, round_length, minutes, width) for _ in range(24)]
        found.append((Net(round_length, NAMES, spans), Times(round_length, minutes)))
    return found


class LargestTest(unittest.TestCase):

    def answer(self, call, *arguments):
        """The call's answer; it is found in time."""
        start = time.perf_counter()
        found = call(*arguments)
        self.assertLess(time.perf_counter() - start, SECONDS)
        return found

    def test_all_questions(self):
        for net, times in large_nets():
            base = self.answer(Base, net)
            numbers = self.answer(rounds, net, times)
            ring = sum([ring * 2 for ring in base.rings[:1]], [])
            self.answer(turn, net, times, ring)
            self.answer(parts, net, ring)
            self.answer(choices, net)
            island = self.answer(Island, net, times)
            self.assertIn(self.answer(times_of, net, numbers), island)
            self.answer(lambda: island.groups)
            for name in NAMES:
                self.answer(island.push, name, 2000)
                self.answer(island.limits, name, *NAMES)
                self.answer(island.slackless_ring, name)
                self.answer(island.chain, "a", name)
            for bar in [RingBar(ring), FixedBar("a", ring), PathBar("a", "b", ring, ring, ring)]:
                self.answer(bar.shows, net, times, times >> 1)

    def test_rounds_that_are_shut_out(self):
        for net, times in large_nets():
            for change in [1, -1, 10 ** 9, -10 ** 9]:
                numbers = rounds(net, times)
                numbers[-1] += change
                self.answer(self.is_shut, net, numbers)

    def is_shut(self, net, numbers):
        try:
            times_of(net, numbers)
        except ShutRing:
            return True
        return False

    def test_islands(self):
        asked = 0
        for net, times in large_nets():
            count = self.answer(self.count_of, net)
            if count is not None:
                asked += 1
                self.assertGreater(count, 0)
        self.assertGreater(asked, 3)

    def count_of(self, net):
        try:
            return len(islands(net))
        except TooMany:
            return None

    def test_four_hundred_islands(self):
        rows = [(start, end, 0, 117, 1) for start, end in zip(NAMES, NAMES[1:])]
        back = [(NAMES[height], "a", 0, 0, 1) for height in [10, 10, 4]]
        net = Net(120, NAMES, rows + back + [("a", "b", 0, 117, 1)] * 10)
        self.assertEqual(len(net.spans), 24)
        self.assertGreater(self.answer(self.count_of, net), 10)

    def test_most_choices(self):
        rows = [(start, end, 0, 117, 1) for start, end in zip(NAMES, NAMES[1:])]
        net = Net(120, NAMES, rows + [("l", "a", 0, 117, 1)] * 13)
        self.assertIs(self.answer(self.count_of, net), None)

    def plan_or_none(self, manner, net, start, goal):
        try:
            return manner.lead(net, start, goal)
        except Barred:
            return None

    def goals(self, net, times):
        """Timetables of the same island and of other ones."""
        island = Island(net, times)
        found = [times >> net.round_length // 2]
        for name, minutes in [("a", 2000), ("f", -999), ("l", 7)]:
            found.append(times + island.push(name, minutes))
        return found + [times_of(net, rounds(net, times))]

    def test_plans(self):
        led = {"daily": 0, "alone": 0}
        for net, times in large_nets():
            for goal in self.goals(net, times):
                for manner in [Daily(), Alone(), Daily("a"), Alone("l", "c"), Daily(*NAMES)]:
                    plan = self.answer(self.plan_or_none, manner, net, times, goal)
                    if plan is not None:
                        led[manner.NAME] += len(plan)
                        self.assertEqual(len(self.answer(list, plan.stops())), len(plan))
                        self.assertEqual(len(self.answer(list, plan.back().steps())), len(plan))
        self.assertGreater(min(led.values()), 500)

    def long_way(self, names):
        """A row of events with wide spans; in the goal all minutes that pass are the greatest ones."""
        net = Net(120, names, [(start, end, 0, 117, 1) for start, end in zip(NAMES, NAMES[1:])] * 2
                  + [("a", "b", 0, 117, 0)] * 2)
        goal = Times(120, {name: 117 * at % 120 for at, name in enumerate(NAMES)})
        return net, Times.zero(120, *NAMES), goal

    def test_plans_of_some_thousand_moves(self):
        for names in [NAMES, NAMES[::-1], NAMES[::2] + NAMES[1::2]]:
            net, start, goal = self.long_way(names)
            self.assertEqual((len(net), len(net.spans)), (12, 24))
            for manner, count in [(Daily("a"), 1287), (Alone("a"), 7722), (Daily(), 687), (Alone(), 4212)]:
                plan = self.answer(manner.lead, net, start, goal)
                self.assertEqual(len(plan), count)
                for way in [plan, plan.back()]:
                    began = time.perf_counter()
                    stops = list(way.stops())
                    self.assertLess(time.perf_counter() - began, 2)
                    self.assertEqual((len(stops), stops[-1]), (count, way.goal))

    def test_passes_and_waits(self):
        for net, times in large_nets():
            # All weights differ.
            heavy = Net(net.round_length, NAMES, [(*span[:4], number) for number, span in enumerate(net.spans)])
            for goal in self.goals(net, times):
                self.answer(easiest_pass, heavy, times, goal)
            for held in [[], ["a"], NAMES[3:9], NAMES]:
                found = self.answer(least_waits, net, times, *held)
                self.assertIs(Island(net, times).lets(found.shift), True)

    def test_pass_that_lets_many_spans_go(self):
        net, start, goal = self.long_way(NAMES)
        # The last span makes a ring with the first ones; the least weight of these is 14.
        spans = [(*span[:4], 24 - number) for number, span in enumerate(net.spans[:23])] + [("l", "a", 0, 117, 99)]
        net, goal = Net(120, NAMES, spans), Times(120, {**goal.minutes, "l": 3})
        found = self.answer(easiest_pass, net, start, goal)
        self.assertEqual((found.weight, found.dropped), (14, list(range(10, 23))))
        self.assertEqual(sorted(number for number, _ in found.bar.ring), [*range(11), 23])

    def test_texts(self):
        for net, times in large_nets():
            self.assertEqual(self.answer(read_net, self.answer(write_net, net)), net)
            self.assertEqual(self.answer(read_times, self.answer(write_times, times)), times)
            shift = Shift({name: at * 10 ** 8 - 5 for at, name in enumerate(NAMES[:9])})
            self.assertEqual(self.answer(read_shift, self.answer(write_shift, shift)), shift)
            for ring in Base(net).rings:
                self.assertEqual(self.answer(read_walk, self.answer(write_walk, ring)), ring)

    def test_desk(self):
        for net, times in large_nets():
            desk = Desk(net, times)
            for goal in self.goals(net, times):
                if self.plan_or_none(Daily(), net, times, goal) is not None:
                    self.answer(desk.aim_at, goal)
                    for _ in range(min(3, self.answer(desk.moves_left) or 0)):
                        self.answer(desk.step)
            self.answer(desk.push, "a", 2000)
            self.answer(desk.push, "k", -2000)
            self.answer(desk.place, "f", 0)
            self.answer(desk.hold, "l")
            again = self.answer(replay, net, times, desk.log)
            self.assertEqual((again.log, again.times), (desk.log, desk.times))
            self.assertEqual(self.answer(run, desk, "undo\nredo\n" * 20 + "undo"), 41)


if __name__ == "__main__":
    unittest.main()
