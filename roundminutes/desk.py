"""The desk: a net and a timetable that deeds change, and the record of these deeds."""

from roundminutes.errors import BadName, Barred, BrokenSpan, HeldEvent, NothingLeft
from roundminutes.manners import Alone, Daily
from roundminutes.nets import check_known, check_range
from roundminutes.passing import check_times
from roundminutes.rooms import Island
from roundminutes.shifts import Shift
from roundminutes.texts import write_times
from roundminutes.times import Times


class Desk:
    """A net, a timetable that keeps it, held events, an aim and a manner.

    The history is a list of tuples (row of the log, state after the deed). It begins with the first state; the deeds
    behind the present place are undone. Neither a state nor a history is ever changed: a deed makes new ones.
    """

    def __init__(self, net, times):
        check_times(net, times)
        self._events = net.events
        self._history = [("", {"net": net, "times": times, "held": [], "aim": None, "manner": Daily.NAME})]
        self._at = 0

    def _now(self, part):
        """Return a part of the present state."""
        return self._history[self._at][1][part]

    def _deed(self, row, part, value):
        """Give a part of the state this value, and record that as this row unless the part has it already."""
        state = self._history[self._at][1]
        if value != state[part]:
            self._history = self._history[:self._at + 1] + [(row, {**state, part: value})]
            self._at = self._at + 1

    @property
    def net(self):
        """The net."""
        return self._now("net")

    @property
    def times(self):
        """The timetable."""
        return self._now("times")

    @property
    def held(self):
        """The held events, in the order of the net."""
        return list(self._now("held"))

    @property
    def aim(self):
        """The timetable to which steps lead, or None."""
        return self._now("aim")

    @property
    def log(self):
        """The rows of the deeds that are not undone."""
        return [row for row, _ in self._history[1:self._at + 1]]

    @property
    def manner(self):
        """The name of the manner."""
        return self._now("manner")

    @manner.setter
    def manner(self, value):
        self.choose(value)

    def __getitem__(self, name):
        return self._now("times")[name]

    def __setitem__(self, name, minute):
        self.place(name, minute)

    def __iter__(self):
        return iter(self._events)

    def _shift_together(self, verb, minutes, names):
        """Move all named events by these minutes."""
        check_known(names, self._events)
        held = [name for name in names if name in self._now("held")]
        if held:
            raise HeldEvent(held[0])
        times = self._now("times") + Shift.together(*names, minutes=minutes)
        check_times(self._now("net"), times)
        moved = [name for name in self._events if name in names]
        self._deed(" ".join([verb, *moved]), "times", times)

    def later(self, *names):
        """Move all named events one minute later."""
        self._shift_together("later", 1, names)

    def earlier(self, *names):
        """Move all named events one minute earlier."""
        self._shift_together("earlier", -1, names)

    def _push_as(self, row, name, minutes):
        """Push an event without moving the held ones, and record it as this row."""
        held = self._now("held")
        shift = Island(self._now("net"), self._now("times")).push(name, minutes, *held)
        self._deed(row, "times", self._now("times") + shift)
        return shift

    def push(self, name, minutes):
        """Move an event by the minutes and the others along as little as possible."""
        return self._push_as(f"push {name} {minutes:+d}", name, minutes)

    def place(self, name, minute):
        """Bring an event to a minute by the shortest push; later, if both ways are equally long."""
        check_known([name], self._events)
        length = self._now("net").round_length
        check_range(minute, 0, length - 1)
        minutes = (minute - self[name]) % length
        if 2 * minutes > length:
            minutes = minutes - length
        return self._push_as(f"place {name} {minute}", name, minutes)

    def hold(self, name):
        """Begin the holding of an event."""
        check_known([name], self._events)
        held = [*self._now("held"), name]
        self._deed(f"hold {name}", "held", [other for other in self._events if other in held])

    def free(self, name):
        """End the holding of an event."""
        check_known([name], self._events)
        self._deed(f"free {name}", "held", [other for other in self._now("held") if other != name])

    def change(self, number, least, most):
        """Give a span another least and most."""
        net = self._now("net").changed(number, least=least, most=most)
        # All other spans are kept already.
        check_times(net, self._now("times"))
        self._deed(f"change {number} {least} {most}", "net", net)

    def choose(self, manner):
        """Set the manner."""
        if manner not in (Daily.NAME, Alone.NAME):
            raise BadName(manner)
        self._deed(f"choose {manner}", "manner", manner)

    def _plan_to(self, goal):
        """Return the plan from the present timetable to the goal."""
        held = self._now("held")
        manner = Daily(*held) if self._now("manner") == Daily.NAME else Alone(*held)
        return manner.lead(self._now("net"), self._now("times"), goal)

    def aim_at(self, goal):
        """Set the timetable to which steps lead."""
        # Only for its errors.
        self._plan_to(goal)
        aim = Times(goal.round_length, {name: goal[name] for name in self._events})
        self._deed(f"aim {write_times(aim)}", "aim", aim)

    def step(self):
        """Do the first move to the aim and return it."""
        aim = self._now("aim")
        if aim is None or aim == self._now("times"):
            raise NothingLeft()
        move = self._plan_to(aim).first_move()
        self._deed("step", "times", self._now("times") + move)
        return move

    def moves_left(self):
        """Return the number of moves to the aim, or None if there is no aim or it cannot be reached now."""
        aim = self._now("aim")
        if aim is None:
            return None
        try:
            return len(self._plan_to(aim))
        except (BrokenSpan, Barred):
            # A change of a span may have left an aim that does not keep it.
            return None

    def undo(self):
        """Take the last recorded deed back."""
        if self._at == 0:
            raise NothingLeft()
        self._at = self._at - 1

    def redo(self):
        """Do the deed again that was last undone."""
        if self._at == len(self._history) - 1:
            raise NothingLeft()
        self._at = self._at + 1

    def trial(self):
        """Return an object for a block at whose end everything is taken back if an error leaves it."""
        return Trial(self)


class Trial:
    """A block of deeds of which nothing stays if an error leaves it."""

    def __init__(self, desk):
        self._desk = desk
        self._old_history = []
        self._old_at = 0

    def __enter__(self):
        desk = self._desk
        self._old_history = desk._history
        self._old_at = desk._at
        return self

    def __exit__(self, kind, value, trace):
        desk = self._desk
        if kind is not None:
            desk._history = self._old_history
            desk._at = self._old_at
