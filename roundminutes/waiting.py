"""The least waits that daily moves reach, and the prices that show that there are no lesser ones."""

from roundminutes.nets import check_known
from roundminutes.passing import kept_minutes, minutes_after, waits_of
from roundminutes.searching import arcs_of, least_walks, walk_along
from roundminutes.shifts import Shift

# Held events do not move against each other, so they count as one node. No event has this name.
HELD = ""


class LeastWaits:
    """A timetable with the least waits, the shift to it, and prices that show that they are the least."""

    def __init__(self, times, shift, least, prices):
        self._times = times
        self._shift = shift
        self._least = least
        self._prices = list(prices)

    @property
    def times(self):
        """A timetable with the least waits."""
        return self._times

    @property
    def shift(self):
        """A shift that leads to it."""
        return self._shift

    @property
    def waits(self):
        """The least waits."""
        return self._least

    @property
    def prices(self):
        """The price of each span."""
        return list(self._prices)


def node_arcs(net, minutes, nodes, prices):
    """Return the arcs, as those of arcs_of, between the nodes of the events: each step by 1 changes a price by 1.

    A price that equals the weight costs nothing. What a greater one costs grows by the minutes that may still pass up
    to most, what a lesser one costs by the minutes that pass beyond least, with each 1 that it is away.
    """
    raising = []
    lowering = []
    for (_, _, least, most, weight), passing, price in zip(net.spans, minutes, prices):
        raising.append(most - passing if price >= weight else least - passing)
        lowering.append(passing - least if price <= weight else passing - most)
    arcs = arcs_of(net, raising, lowering)
    return [(nodes[begin], nodes[end], cost, step) for begin, end, cost, step in arcs]


def surplus_of(net, nodes, prices):
    """Return for each node the prices of the spans that end there, less those of the spans that start there."""
    surplus = {nodes[name]: 0 for name in net}
    for span, price in zip(net.spans, prices):
        surplus[nodes[span[0]]] = surplus[nodes[span[0]]] - price
        surplus[nodes[span[1]]] = surplus[nodes[span[1]]] + price
    return surplus


def way_out(arcs, surplus):
    """Return the cheapest walk from a node with too high prices to one with too low ones, and by how much; or None."""
    for source, too_much in surplus.items():
        if too_much > 0:
            sums, last = least_walks(arcs, source)[:2]
            # The surplus of all nodes that are connected is 0 together, so there is one.
            sink = [node for node in surplus if node in sums and surplus[node] < 0][0]
            return walk_along(last, source, sink), min(too_much, -surplus[sink])
    return None


def reach_of(walk, weights, prices, amount):
    """Return how much of the amount the prices on the walk can change before a cost changes its growth."""
    away = [(weights[number] - prices[number]) * direction for number, direction in walk]
    return min([amount] + [distance for distance in away if distance > 0])


def least_prices(net, minutes, nodes):
    """Return the cheapest prices without a surplus at a node.

    The prices begin at the weights, where they cost nothing. Each change is made along a cheapest walk, so no ring of
    changes that would make the prices cheaper ever comes to be.
    """
    weights = [span[4] for span in net.spans]
    prices = list(weights)
    while True:
        found = way_out(node_arcs(net, minutes, nodes, prices), surplus_of(net, nodes, prices))
        if found is None:
            return prices
        walk, amount = found
        amount = reach_of(walk, weights, prices, amount)
        for number, direction in walk:
            prices[number] = prices[number] + direction * amount


def shift_for(net, arcs, nodes):
    """Return a shift that leaves the held events, and whose growth along each arc is at most its cost.

    With the arcs of cheapest prices, least minutes pass on a span whose price is less than its weight, and most minutes
    on one whose price is greater.
    """
    moves = {}
    held = [name for name in net if nodes[name] == HELD]
    for root in held + net.events:
        if root not in moves:
            sums = least_walks(arcs, nodes[root])[0]
            moves.update({name: sums[nodes[name]] for name in net if nodes[name] in sums})
    return Shift(moves)


def least_waits(net, times, *held):
    """Return the least waits of all timetables to which daily moves lead that do not move the held events."""
    minutes = kept_minutes(net, times)
    check_known(held, net)
    nodes = {name: HELD if name in held else name for name in net}
    prices = least_prices(net, minutes, nodes)
    shift = shift_for(net, node_arcs(net, minutes, nodes, prices), nodes)
    least = waits_of(net.spans, minutes_after(net.spans, minutes, shift))
    return LeastWaits(times + shift, shift, least, prices)
