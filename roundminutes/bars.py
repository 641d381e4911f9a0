"""Bars: short reasons why no moves lead from one timetable to another."""

from roundminutes.passing import check_times
from roundminutes.rings import ends_if_walk, is_ring, turn
from roundminutes.rooms import Island


def check_both(net, start, goal):
    """Raise the first error if one of the timetables does not keep the net."""
    check_times(net, start)
    check_times(net, goal)


def turns_differ(net, start, goal, walk):
    """Tell whether the timetables have different turns on the walk."""
    return turn(net, start, walk) != turn(net, goal, walk)


def fixes(net, start, event, ring, held, alone):
    """Tell whether the ring fixes the event: an empty one if it is held, a slackless one if it is moved alone."""
    if not ring:
        return event in held
    return alone and ends_if_walk(net, ring) == (event, event) and Island(net, start).slack(ring) == 0


class Bar:
    """The base class of the bars."""

    KIND = "bar"


class RingBar(Bar):
    """The turns of the two timetables differ on a ring."""

    KIND = "ring"

    def __init__(self, ring):
        self._ring = list(ring)

    @property
    def ring(self):
        """The ring."""
        return list(self._ring)

    def shows(self, net, start, goal, *, held=(), alone=False):
        """Tell whether the bar shows that the goal cannot be reached; no manner of moves changes a turn on a ring."""
        check_both(net, start, goal)
        return is_ring(net, self._ring) and turns_differ(net, start, goal, self._ring)


class FixedBar(Bar):
    """A fixed event has different minutes in the two timetables."""

    KIND = "fixed"

    def __init__(self, event, ring):
        self._event = event
        self._ring = list(ring)

    @property
    def event(self):
        """The fixed event."""
        return self._event

    @property
    def ring(self):
        """The ring that fixes it, empty if it is held."""
        return list(self._ring)

    def shows(self, net, start, goal, *, held=(), alone=False):
        """Tell whether the bar shows that the goal cannot be reached."""
        check_both(net, start, goal)
        if self._event not in net or start[self._event] == goal[self._event]:
            return False
        return fixes(net, start, self._event, self._ring, held, alone)


class PathBar(Bar):
    """The turns of the two timetables differ on a walk from a fixed event to another one."""

    KIND = "path"

    def __init__(self, first, second, walk, first_ring, second_ring):
        self._first = first
        self._second = second
        self._walk = list(walk)
        self._first_ring = list(first_ring)
        self._second_ring = list(second_ring)

    @property
    def first(self):
        """The event at which the walk begins."""
        return self._first

    @property
    def second(self):
        """The event at which the walk ends."""
        return self._second

    @property
    def walk(self):
        """The walk."""
        return list(self._walk)

    @property
    def first_ring(self):
        """The ring that fixes the first event, empty if it is held."""
        return list(self._first_ring)

    @property
    def second_ring(self):
        """The ring that fixes the second event, empty if it is held."""
        return list(self._second_ring)

    def shows(self, net, start, goal, *, held=(), alone=False):
        """Tell whether the bar shows that the goal cannot be reached."""
        check_both(net, start, goal)
        if ends_if_walk(net, self._walk) != (self._first, self._second):
            return False
        return (fixes(net, start, self._first, self._first_ring, held, alone)
                and fixes(net, start, self._second, self._second_ring, held, alone)
                and turns_differ(net, start, goal, self._walk))
