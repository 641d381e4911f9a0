"""Walks with the least sums, where each step has a cost."""


def sum_over(walk, forward, backward):
    """Return the sum over the steps of a walk; both lists have the cost of a step over each span."""
    return sum([forward[number] if direction == 1 else backward[number] for number, direction in walk])


def arcs_of(net, forward, backward):
    """Return a tuple (begin, end, cost, step) for each step of the net; both lists as in sum_over."""
    arcs = []
    for number, span in enumerate(net.spans):
        start, end = span[:2]
        arcs.append((start, end, forward[number], (number, 1)))
        arcs.append((end, start, backward[number], (number, -1)))
    return arcs


def walk_along(last, begin, end):
    """Return the walk to an event along the last steps to each one, or None if it does not pass the beginning."""
    walk = []
    place = end
    while place != begin:
        if place not in last:
            return None
        place, step = last[place]
        walk.append(step)
    return walk[::-1]


def least_walks(arcs, first):
    """Return the least sums of walks from the first event, and for each event that they lead to the last step.

    The sums are a dict by event. The last steps are a dict from an event to a tuple: the event before it, the step.
    The third value is None, or a ring with a sum below 0: then there are no least sums, and the first two mean nothing.
    """
    sums = {first: 0}
    last = {}
    better = True
    while better:
        better = False
        for begin, end, cost, step in arcs:
            if begin in sums and (end not in sums or sums[begin] + cost < sums[end]):
                # A step back to an event that led here makes its own sum less: the ring between has a sum below 0.
                way = walk_along(last, end, begin)
                if way is not None:
                    return sums, last, [*way, step]
                sums[end] = sums[begin] + cost
                last[end] = (begin, step)
                better = True
    return sums, last, None
