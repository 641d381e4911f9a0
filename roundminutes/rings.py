"""Walks and rings of a net, its base rings, and the rounds of a timetable on them."""

from roundminutes.errors import BadWalk
from roundminutes.nets import check_known, joined
from roundminutes.passing import kept_minutes
from roundminutes.searching import arcs_of, least_walks, sum_over, walk_along


def tree_of(net):
    """Return the numbers of the spans whose events the spans before them do not connect."""
    leaders = {name: name for name in net}
    tree = []
    for number, span in enumerate(net.spans):
        start, end = span[:2]
        if leaders[start] != leaders[end]:
            tree.append(number)
            leaders = joined(leaders, start, end)
    return tree


class Base:
    """The tree spans, the closing spans and the base rings of a net."""

    def __init__(self, net):
        count = len(net.spans)
        self._net = net
        self._tree = tree_of(net)
        self._closing = [number for number in range(count) if number not in self._tree]
        # Along tree spans only one walk leads from one event to another, so the costs do not count.
        arcs = arcs_of(net, [0] * count, [0] * count)
        self._arcs = [arc for arc in arcs if arc[3][0] in self._tree]
        self._rings = [self._base_ring(number) for number in self._closing]

    def _base_ring(self, number):
        """Return the base ring of a closing span."""
        start, end = self._net.span(number)[:2]
        return [(number, 1)] + self.path(end, start)

    @property
    def tree(self):
        """The numbers of the tree spans."""
        return list(self._tree)

    @property
    def closing(self):
        """The numbers of the closing spans."""
        return list(self._closing)

    @property
    def rings(self):
        """The base rings, in the order of their closing spans."""
        return [list(ring) for ring in self._rings]

    def __len__(self):
        return len(self._rings)

    def path(self, first, second):
        """Return the walk along tree spans from one event to another, or None between different pieces."""
        check_known([first, second], self._net)
        last = least_walks(self._arcs, first)[1]
        return walk_along(last, first, second)


def ends(net, walk):
    """Return the events at which the walk begins and ends, or None for the empty walk."""
    spans = net.spans
    first = place = None
    for at, (number, direction) in enumerate(walk):
        if not 0 <= number < len(spans) or direction not in (1, -1):
            raise BadWalk(at)
        start, end = spans[number][:2]
        begin, reached = (start, end) if direction == 1 else (end, start)
        if at == 0:
            first = begin
        elif begin != place:
            raise BadWalk(at)
        place = reached
    return (first, place) if walk else None


def ends_if_walk(net, walk):
    """Return the events at which the walk begins and ends, or None for the empty walk and a list that is no walk."""
    try:
        return ends(net, walk)
    except BadWalk:
        return None


def is_ring(net, walk):
    """Tell whether the list of steps is a ring of the net."""
    found = ends_if_walk(net, walk)
    return found is not None and found[0] == found[1]


def turn_of(walk, minutes):
    """Return the turn on the walk if these minutes pass on the spans."""
    return sum_over(walk, minutes, [-passing for passing in minutes])


def turn(net, times, walk):
    """Return the minutes that pass on the forward steps minus those that pass on the backward steps."""
    minutes = kept_minutes(net, times)
    # Only for its error.
    ends(net, walk)
    return turn_of(walk, minutes)


def rounds_on(rings, minutes, round_length):
    """Return the rounds on each of the rings if these minutes pass on the spans."""
    return [turn_of(ring, minutes) // round_length for ring in rings]


def rounds(net, times):
    """Return the rounds of the timetable on the base rings."""
    return rounds_on(Base(net).rings, kept_minutes(net, times), net.round_length)


def parts(net, ring):
    """Return for each base ring how often the ring passes its closing span forward, less how often backward."""
    found = ends(net, ring)
    if found is None or found[0] != found[1]:
        raise BadWalk(len(ring))
    return [sum([direction for number, direction in ring if number == closing]) for closing in Base(net).closing]
