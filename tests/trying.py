"""Plain searches over all timetables of small nets by the moves of point 20."""

import itertools

from roundminutes.times import Times
from samples import all_times


def moves(net, alone, held):
    """The moves of point 20 as tuples with an entry for each event in the order of the net."""
    free = [(0,) if name in held else (-1, 0, 1) for name in net]
    every = [move for move in itertools.product(*free) if any(move)]
    return [move for move in every if sum(map(abs, move)) == 1] if alone else every


class Search:
    """All timetables that keep a net, as tuples of minutes in the order of the net."""

    def __init__(self, net):
        self.net = net
        self.times = all_times(net)
        self.kept = {self.key(times) for times in self.times}

    def key(self, times):
        return tuple(times[name] for name in self.net)

    def distances(self, start, *, alone=False, held=()):
        """The least number of moves to each timetable that can be reached, by its key."""
        every = moves(self.net, alone, held)
        found = {self.key(start): 0}
        row = list(found)
        while row:
            following = []
            for place in row:
                for move in every:
                    there = tuple((minute + step) % self.net.round_length for minute, step in zip(place, move))
                    if there in self.kept and there not in found:
                        found[there] = found[place] + 1
                        following.append(there)
            row = following
        return found

    def timetable(self, key):
        return Times(self.net.round_length, dict(zip(self.net, key)))
