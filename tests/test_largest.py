"""The largest nets that the document allows are answered in well under a second each."""

import random
import time
import unittest

from roundminutes.bars import FixedBar, PathBar, RingBar
from roundminutes.choosing import choices, islands, times_of
from roundminutes.errors import ShutRing, TooMany
from roundminutes.nets import Net
from roundminutes.rings import Base, parts, rounds, turn
from roundminutes.rooms import Island
from roundminutes.times import Times

NAMES = list("abcdefghijkl")
SECONDS = 0.5


def span_around(chance, round_length, minutes, width):
    """A span of this width between two of the events that the minutes keep."""
    start, end = chance.sample(NAMES, 2)
    least = (minutes[end] - minutes[start] - chance.randrange(width + 1)) % round_length
    return (start, end, least, least + width, chance.randrange(100))


def large_nets():
    """Nets with 12 events and 24 spans, each with a timetable that keeps it."""
    chance = random.Random("large")
    found = []
    for round_length, width in [(120, 117), (120, 60), (120, 0), (60, 20), (3, 0), (4, 1), (10, 7)] * 3:
        minutes = {name: chance.randrange(round_length) for name in NAMES}
        spans = [span_around(chance, round_length, minutes, width) for _ in range(24)]
        found.append((Net(round_length, NAMES, spans), Times(round_length, minutes)))
    return found


class LargestTest(unittest.TestCase):

    def answer(self, call, *arguments):
        """The call's answer; it is found in time."""
        start = time.perf_counter()
        found = call(*arguments)
        self.assertLess(time.perf_counter() - start, SECONDS)
        return found

    def test_all_questions(self):
        for net, times in large_nets():
            base = self.answer(Base, net)
            numbers = self.answer(rounds, net, times)
            ring = sum([ring * 2 for ring in base.rings[:1]], [])
            self.answer(turn, net, times, ring)
            self.answer(parts, net, ring)
            self.answer(choices, net)
            island = self.answer(Island, net, times)
            self.assertIn(self.answer(times_of, net, numbers), island)
            self.answer(lambda: island.groups)
            for name in NAMES:
                self.answer(island.push, name, 2000)
                self.answer(island.limits, name, *NAMES)
                self.answer(island.slackless_ring, name)
                self.answer(island.chain, "a", name)
            for bar in [RingBar(ring), FixedBar("a", ring), PathBar("a", "b", ring, ring, ring)]:
                self.answer(bar.shows, net, times, times >> 1)

    def test_rounds_that_are_shut_out(self):
        for net, times in large_nets():
            for change in [1, -1, 10 ** 9, -10 ** 9]:
                numbers = rounds(net, times)
                numbers[-1] += change
                self.answer(self.is_shut, net, numbers)

    def is_shut(self, net, numbers):
        try:
            times_of(net, numbers)
        except ShutRing:
            return True
        return False

    def test_islands(self):
        asked = 0
        for net, times in large_nets():
            count = self.answer(self.count_of, net)
            if count is not None:
                asked += 1
                self.assertGreater(count, 0)
        self.assertGreater(asked, 3)

    def count_of(self, net):
        try:
            return len(islands(net))
        except TooMany:
            return None

    def test_four_hundred_islands(self):
        rows = [(start, end, 0, 117, 1) for start, end in zip(NAMES, NAMES[1:])]
        back = [(NAMES[height], "a", 0, 0, 1) for height in [10, 10, 4]]
        net = Net(120, NAMES, rows + back + [("a", "b", 0, 117, 1)] * 10)
        self.assertEqual(len(net.spans), 24)
        self.assertGreater(self.answer(self.count_of, net), 10)

    def test_most_choices(self):
        rows = [(start, end, 0, 117, 1) for start, end in zip(NAMES, NAMES[1:])]
        net = Net(120, NAMES, rows + [("l", "a", 0, 117, 1)] * 13)
        self.assertIs(self.answer(self.count_of, net), None)


if __name__ == "__main__":
    unittest.main()
