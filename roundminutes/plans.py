"""Plans: the moves that lead one timetable into another."""

from roundminutes.passing import kept_minutes, minutes_after
from roundminutes.shifts import Shift


def minute_towards(entry):
    """Return the move by one minute in the direction of the entry, 0 for 0."""
    return max(-1, min(1, entry))


def all_kept(spans, minutes):
    """Tell whether the minutes that pass lie from least to most on each span."""
    return all([span[2] <= passing <= span[3] for span, passing in zip(spans, minutes)])


def daily_move(left):
    """Return the move by one minute of every event that has not got its whole shift yet."""
    return Shift({name: minute_towards(left[name]) for name in left})


def alone_move(net, minutes, left):
    """Return the move of the first event that has not got its whole shift yet and that the spans let move."""
    spans = net.spans
    for name in net:
        move = Shift({name: minute_towards(left[name])})
        if name in left and all_kept(spans, minutes_after(spans, minutes, move)):
            return move
    # Not reached: if no bar applies, there always is one.
    return None


class Plan:
    """The moves of one manner from a timetable to another one that keeps the same net."""

    def __init__(self, net, start, goal, shift, manner_name, count):
        self._net = net
        self._start = start
        self._goal = goal
        self._shift = shift
        self._manner_name = manner_name
        self._count = count

    @property
    def start(self):
        """The timetable before the first move."""
        return self._start

    @property
    def goal(self):
        """The timetable after the last move."""
        return self._goal

    @property
    def shift(self):
        """The sum of all moves."""
        return self._shift

    @property
    def manner_name(self):
        """The name of the manner."""
        return self._manner_name

    def __len__(self):
        return len(list(range(self._count)))

    def _move(self, minutes, left):
        """Return the next move, if these minutes pass now and this part of the shift is left."""
        if self._manner_name == "daily":
            return daily_move(left)
        return alone_move(self._net, minutes, left)

    def first_move(self):
        """Return the first move; the plan must have one."""
        return self._move(kept_minutes(self._net, self._start), self._shift)

    def steps(self):
        """Yield the moves in order."""
        spans = self._net.spans
        minutes = kept_minutes(self._net, self._start)
        left = self._shift
        for _ in range(self._count):
            move = self._move(minutes, left)
            minutes = minutes_after(spans, minutes, move)
            left = left - move
            yield move

    def stops(self):
        """Yield the timetable after each move."""
        there = self._start
        for move in self.steps():
            there = there + move
            yield there

    def back(self):
        """Return the plan from the goal to the start with the opposite total shift."""
        return Plan(self._net, self._goal, self._start, -self._shift, self._manner_name, self._count)
