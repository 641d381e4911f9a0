"""Manners: the ways of moving events, and the plans that lead from one timetable to another by such moves."""

from roundminutes.changes import Change
from roundminutes.errors import Barred
from roundminutes.nets import check_known
from roundminutes.plans import Plan
from roundminutes.rooms import Island
from roundminutes.shifts import Shift


class Manner:
    """The base class of the manners; some events are held."""

    NAME = "manner"

    def __init__(self, *held):
        self._held = []
        for name in held:
            if name not in self._held:
                self._held.append(name)

    @property
    def held(self):
        """The names of the held events, in the order in which they were given."""
        return list(self._held)

    def fixed(self, island):
        """Return the held events in the order of the net."""
        check_known(self._held, island.net)
        return [name for name in island.net if name in self._held]

    def _fixing_rings(self, island):
        """Return the rings that fix each fixed event, in the order of the net; an empty ring for a held event."""
        return {name: [] if name in self._held else island.slackless_ring(name) for name in self.fixed(island)}

    def lead(self, net, start, goal):
        """Return the plan with the fewest moves from the start to the goal."""
        change = Change(net, start, goal)
        rings = self._fixing_rings(Island(net, start))
        bar = change.first_bar(rings)
        if bar is not None:
            raise Barred(bar)
        total = Shift({})
        for piece in net.pieces:
            # Of several shifts that need equally many moves, min returns the first one, which is the greatest.
            total = total + min(change.piece_shifts(piece, list(rings)), key=self.fewest)
        return Plan(net, start, goal, total, self.NAME, self.fewest(total))


class Daily(Manner):
    """Each move shifts every event by at most one minute."""

    NAME = "daily"

    def fewest(self, shift):
        """Return the number of moves for a total shift."""
        return shift.height


class Alone(Manner):
    """Each move shifts a single event by one minute."""

    NAME = "alone"

    def fewest(self, shift):
        """Return the number of moves for a total shift."""
        return shift.size

    def fixed(self, island):
        """Return the held events and those that cannot be moved against others, in the order of the net."""
        held = super().fixed(island)
        together = [name for group in island.groups if len(group) > 1 for name in group]
        return [name for name in island.net if name in held or name in together]
