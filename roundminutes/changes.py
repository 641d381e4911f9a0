"""What changes between two timetables that keep a net: the bars that apply, and the shifts from one to the other."""

from roundminutes.bars import FixedBar, PathBar, RingBar
from roundminutes.passing import kept_minutes
from roundminutes.rings import Base, turn_of
from roundminutes.shifts import Shift


class Change:
    """The change from a starting timetable to a goal."""

    def __init__(self, net, start, goal):
        before = kept_minutes(net, start)
        after = kept_minutes(net, goal)
        self._net = net
        self._start = start
        self._goal = goal
        self._base = Base(net)
        self._growths = [then - now for now, then in zip(before, after)]

    def _growth(self, walk):
        """Return by how much the turn on the walk grows."""
        return turn_of(walk, self._growths)

    def _ring_bar(self):
        """Return the bar of the first base ring whose turn changes, or None."""
        for ring in self._base.rings:
            if self._growth(ring) != 0:
                return RingBar(ring)
        return None

    def _fixed_bar(self, rings):
        """Return the bar of the first fixed event whose minute changes, or None."""
        for name, ring in rings.items():
            if self._start[name] != self._goal[name]:
                return FixedBar(name, ring)
        return None

    def _path_bar(self, rings):
        """Return the bar of the first two fixed events of a piece between which the turn changes, or None."""
        for piece in self._net.pieces:
            inside = [name for name in rings if name in piece]
            for other in inside[1:]:
                first = inside[0]
                walk = self._base.path(first, other)
                if self._growth(walk) != 0:
                    return PathBar(first, other, walk, rings[first], rings[other])
        return None

    def first_bar(self, rings):
        """Return the first bar that applies, or None; the rings fix the events by which they stand, in their order."""
        found = self._ring_bar()
        if found is None:
            found = self._fixed_bar(rings)
        if found is None:
            found = self._path_bar(rings)
        return found

    def piece_shifts(self, piece, fixed):
        """Return the shifts by which a piece may be moved if no bar applies, greater ones first.

        If the piece has a fixed event, there is only the one that leaves it. Otherwise they differ by whole rounds, and
        those are left out that are far too great or too small: as soon as all entries are positive or all negative, one
        more round away from 0 only makes them need more moves.
        """
        growth = Shift({name: self._growth(self._base.path(piece[0], name)) for name in piece})
        entries = [growth[name] for name in piece]
        inside = [name for name in piece if name in fixed]
        if inside:
            numbers = [-growth[inside[0]]]
        else:
            length = self._net.round_length
            lowest = -max(entries) - length
            highest = length - min(entries)
            minutes = self._goal[piece[0]] - self._start[piece[0]]
            numbers = list(range(highest - (highest - minutes) % length, lowest - 1, -length))
        return [growth + Shift.together(*piece, minutes=number) for number in numbers]
