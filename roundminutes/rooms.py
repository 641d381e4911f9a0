"""Islands: the timetables with the same rounds, and the room that events have in them."""

from roundminutes.errors import MinuteError, Stuck
from roundminutes.nets import check_known, check_range
from roundminutes.passing import kept_minutes
from roundminutes.rings import Base, ends, rounds_on
from roundminutes.searching import arcs_of, least_walks, sum_over, walk_along
from roundminutes.shifts import Shift

FARTHEST = 2000


class Island:
    """All timetables that keep the net and have the rounds of one of them, seen from that one."""

    def __init__(self, net, times):
        minutes = kept_minutes(net, times)
        self._net = net
        self._times = times
        self._rings = Base(net).rings
        self._rounds = rounds_on(self._rings, minutes, net.round_length)
        self._forward = [span[3] - passing for span, passing in zip(net.spans, minutes)]
        self._backward = [passing - span[2] for span, passing in zip(net.spans, minutes)]
        arcs = arcs_of(net, self._forward, self._backward)
        # No slack is below 0, so no ring has a sum below 0.
        found = {name: least_walks(arcs, name) for name in net}
        self._rooms = {name: found[name][0] for name in found}
        self._last = {name: found[name][1] for name in found}

    @property
    def net(self):
        """The net."""
        return self._net

    @property
    def times(self):
        """The timetable from which the island is seen."""
        return self._times

    @property
    def rounds(self):
        """The rounds of all timetables of the island on the base rings."""
        return list(self._rounds)

    @property
    def groups(self):
        """The lists of events that cannot be moved against each other."""
        found = []
        for name in self._net:
            if not any([name in group for group in found]):
                found.append(self._group(name))
        return found

    def _group(self, name):
        """Return the events that cannot be moved against the named one, itself among them."""
        rooms = self._rooms
        return [other for other in self._net if other in rooms[name] and rooms[name][other] + rooms[other][name] == 0]

    def __contains__(self, other):
        try:
            minutes = kept_minutes(self._net, other)
        except MinuteError:
            return False
        return rounds_on(self._rings, minutes, other.round_length) == self._rounds

    def lets(self, shift):
        """Tell whether all spans are kept, with the same rounds, if the timetable is shifted."""
        check_known(shift, self._net)
        growths = [shift[span[1]] - shift[span[0]] for span in self._net.spans]
        return all([-back <= growth <= ahead for growth, ahead, back in zip(growths, self._forward, self._backward)])

    def slack(self, walk):
        """Return the sum of the minutes by which each step of the walk can grow."""
        # Only for its error.
        ends(self._net, walk)
        return sum_over(walk, self._forward, self._backward)

    def room(self, first, second):
        """Return how many minutes later the second event can be moved against the first; None between pieces."""
        check_known([first, second], self._net)
        return self._rooms[first].get(second)

    def chain(self, first, second):
        """Return a walk from the first event to the second whose slack is the room; None between pieces."""
        check_known([first, second], self._net)
        return walk_along(self._last[first], first, second)

    def slackless_ring(self, name):
        """Return a ring of the event with slack 0, or the empty list if there is none."""
        check_known([name], self._net)
        others = [other for other in self._group(name) if other != name]
        if not others:
            return []
        return self.chain(name, others[0]) + self.chain(others[0], name)

    def _pushed(self, name, minutes, other):
        """Return by how many minutes a push of the named event moves another one of its piece."""
        if minutes > 0:
            return max(0, minutes - self._rooms[other][name])
        return min(0, minutes + self._rooms[name][other])

    def push(self, name, minutes, *held):
        """Return the shift that moves the event by the minutes and the others along as little as possible."""
        check_known([name], self._net)
        check_range(minutes, -FARTHEST, FARTHEST)
        check_known(held, self._net)
        shift = Shift({other: self._pushed(name, minutes, other) for other in self._rooms[name]})
        for other in self._net:
            if other in held and other in shift:
                raise Stuck(other, self.chain(other, name) if minutes > 0 else self.chain(name, other))
        return shift

    def limits(self, name, *held):
        """Return how far the event can be pushed earlier and later without moving a held one; None without any."""
        check_known([name, *held], self._net)
        near = [other for other in held if other in self._rooms[name]]
        if not near:
            return (None, None)
        earlier = min([self._rooms[name][other] for other in near])
        later = min([self._rooms[other][name] for other in near])
        return (-earlier, later)
