"""The rounds that timetables of a net can have."""

from roundminutes.errors import ShutRing, WrongCount
from roundminutes.nets import check_count
from roundminutes.rings import Base
from roundminutes.searching import arcs_of, least_walks, sum_over
from roundminutes.times import Times

MOST_CHOICES = 400


def choices(net):
    """Return for each base ring the tuple of the least and the greatest rounds that its spans let."""
    length = net.round_length
    least = [span[2] for span in net.spans]
    most = [span[3] for span in net.spans]
    found = []
    for ring in Base(net).rings:
        lowest = sum_over(ring, least, [-minutes for minutes in most])
        highest = sum_over(ring, most, [-minutes for minutes in least])
        # The first division is rounded up.
        found.append((-(-lowest // length), highest // length))
    return found


def earliest_sums(net, closing, rounds):
    """Return the sums of the earliest timetable by event, and None; or None, and a ring that shuts the rounds out.

    The sums go along the tree spans, from 0 at the first event of each piece. Over a tree span they grow by the
    minutes that pass, over a closing span by these minutes less the rounds of its ring.
    """
    turns = {number: count * net.round_length for number, count in zip(closing, rounds)}
    lows = [span[2] - turns.get(number, 0) for number, span in enumerate(net.spans)]
    highs = [span[3] - turns.get(number, 0) for number, span in enumerate(net.spans)]
    # A sum is at least what its walk makes it grow: by low or more on a forward step, by -high or more on a backward
    # one. The greatest total over all walks is wanted, so the costs have the opposite signs.
    arcs = arcs_of(net, [-low for low in lows], highs)
    sums = {}
    for piece in net.pieces:
        found, _, ring = least_walks(arcs, piece[0])
        if ring is not None:
            # Its least turn is too great for the rounds. Of the ring turned round, the greatest turn is too small.
            return None, [(number, -direction) for number, direction in ring[::-1]]
        sums.update({name: -found[name] for name in piece})
    return sums, None


def times_of(net, rounds):
    """Return the earliest timetable with these rounds on the base rings."""
    base = Base(net)
    if len(rounds) != len(base):
        raise WrongCount(len(rounds), len(base))
    sums, ring = earliest_sums(net, base.closing, rounds)
    if ring is not None:
        raise ShutRing(ring)
    return Times(net.round_length, {name: sums[name] % net.round_length for name in net})


def rows_of(ranges):
    """Return all lists with a number of each range, in ascending order."""
    rows = [[]]
    for low, high in ranges:
        rows = [[*row, number] for row in rows for number in range(low, high + 1)]
    return rows


def islands(net):
    """Return the rounds of all timetables that keep the net, in ascending order."""
    ranges = choices(net)
    count = 1
    for low, high in ranges:
        count = count * len(range(low, high + 1))
    check_count(count, MOST_CHOICES)
    if count == 0:
        # The rows of the other ranges alone may be far more.
        return []
    closing = Base(net).closing
    return [row for row in rows_of(ranges) if earliest_sums(net, closing, row)[1] is None]
