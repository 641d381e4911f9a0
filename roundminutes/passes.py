"""Passes: the spans that have to be let go for a while so that daily moves reach a goal."""

from roundminutes.bars import FixedBar, PathBar, RingBar, check_both
from roundminutes.errors import Barred
from roundminutes.manners import Daily
from roundminutes.rooms import Island


class Pass:
    """The spans that are let go, the plan without them, and a bar that shows why lighter ones are not enough."""

    def __init__(self, weight, dropped, plan, bar):
        self._weight = weight
        self._dropped = list(dropped)
        self._plan = plan
        self._bar = bar

    @property
    def weight(self):
        """The greatest weight that is let go, or None if no span is."""
        return self._weight

    @property
    def dropped(self):
        """The numbers of the spans that are let go."""
        return list(self._dropped)

    @property
    def plan(self):
        """The daily plan in the net without these spans."""
        return self._plan

    @property
    def bar(self):
        """The bar of the whole net whose spans have at least this weight, or None if no span is let go."""
        return self._bar


def renumbered(walk, numbers):
    """Return the walk with the span of each step replaced by the one at its place in the list of numbers."""
    return [(numbers[number], direction) for number, direction in walk]


def bar_of_whole(bar, numbers):
    """Return the bar in the whole net; the list has the numbers there of the spans that were left."""
    if isinstance(bar, RingBar):
        return RingBar(renumbered(bar.ring, numbers))
    # Daily moves have no other fixed events than held ones, and the rings of these are empty.
    return PathBar(bar.first, bar.second, renumbered(bar.walk, numbers), [], [])


def check_held(manner, net, start, goal):
    """Raise the error if a held event is unknown or has different minutes in the two timetables."""
    for name in manner.fixed(Island(net, start)):
        if start[name] != goal[name]:
            raise Barred(FixedBar(name, []))


def easiest_pass(net, start, goal, *held):
    """Return the pass with the least weight at which daily moves lead from the start to the goal."""
    check_both(net, start, goal)
    manner = Daily(*held)
    check_held(manner, net, start, goal)
    weight = bar = None
    weights = [span[4] for span in net.spans]
    while True:
        dropped = [number for number, heavy in enumerate(weights) if weight is not None and heavy <= weight]
        left = [number for number in range(len(weights)) if number not in dropped]
        try:
            plan = manner.lead(net.without(*dropped), start, goal)
        except Barred as error:
            bar = bar_of_whole(error.reason, left)
            # Without any spans only a held event with different minutes could bar the goal, so some are left here.
            weight = min([weights[number] for number in left])
        else:
            return Pass(weight, dropped, plan, bar)
