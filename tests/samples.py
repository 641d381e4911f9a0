"""Nets for the tests, and answers found by trying everything."""

import itertools
import random

from roundminutes.nets import Net
from roundminutes.times import Times

NET = Net(30, ["a", "b", "c"], [("a", "b", 5, 25, 1), ("b", "c", 5, 25, 3), ("c", "a", 5, 25, 2)])
X = Times(30, {"a": 0, "b": 10, "c": 20})
Y = Times(30, {"a": 0, "b": 6, "c": 20})
Z = Times(30, {"a": 0, "b": 20, "c": 10})

# Two pieces and a single event; several spans between b and a, in both directions.
MIXED = Net(20, ["e", "b", "d", "a", "c", "f"], [
    ("b", "a", 3, 9, 1), ("d", "e", 0, 17, 1), ("a", "b", 8, 20, 1), ("a", "c", 4, 4, 1), ("b", "a", 2, 12, 0),
    ("c", "b", 1, 16, 7), ("e", "d", 2, 8, 1)])
MIXED_TIMES = Times(20, {"a": 5, "b": 0, "c": 9, "d": 0, "e": 12, "f": 7})

# Rigid spans at a and b and at d and e, free ones between b, c and d.
CHAIN = Net(30, ["a", "b", "c", "d", "e"], [
    ("a", "b", 10, 10, 1), ("b", "c", 5, 30, 1), ("c", "d", 5, 30, 1), ("d", "e", 4, 4, 1)])
CHAIN_START = Times(30, {"a": 0, "b": 10, "c": 20, "d": 0, "e": 4})
# c is later, and a round more passes from b to d.
CHAIN_GOAL = Times(30, {"a": 0, "b": 10, "c": 5, "d": 0, "e": 4})
# All later by 5 minutes.
CHAIN_LATER = CHAIN_START >> 5


def small_span(chance, round_length, start, end, width):
    least = chance.randrange(round_length)
    return (start, end, least, least + width, chance.randrange(5))


def small_net(chance):
    """A net of few events and spans with a short round, so that everything can be tried."""
    count = chance.choice([2, 3, 3, 4])
    round_length = chance.randrange(3, {2: 12, 3: 10, 4: 7}[count])
    events = ["d", "a", "c", "b"][:count]
    spans = []
    if chance.randrange(2):
        # A ring of wide spans lets there be several islands.
        spans = [small_span(chance, round_length, *chance.sample(pair, 2), round_length - 3)
                 for pair in zip(events, events[1:] + events[:1])]
    for _ in range(chance.randrange(6 - len(spans))):
        spans.append(small_span(chance, round_length, *chance.sample(events, 2), chance.randrange(round_length - 2)))
    chance.shuffle(spans)
    return Net(round_length, events, spans)


def chained_net(chance):
    """A row of events with wide spans, so that several rounds can pass from its first event to its last one."""
    count = chance.choice([3, 4])
    round_length = chance.randrange(*{3: (6, 10), 4: (5, 7)}[count])
    events = ["d", "a", "c", "b"][:count]
    spans = [small_span(chance, round_length, *chance.sample(pair, 2), round_length - 3)
             for pair in zip(events, events[1:])]
    for _ in range(chance.randrange(3)):
        spans.append(small_span(chance, round_length, *chance.sample(events, 2), chance.randrange(round_length - 2)))
    chance.shuffle(spans)
    chance.shuffle(events)
    return Net(round_length, events, spans)


def chained_nets(count, seed):
    """The same nets each time."""
    chance = random.Random(seed)
    return [chained_net(chance) for _ in range(count)]


def large_net(chance):
    """A net of up to 12 events and 24 spans, in up to two pieces and single events, and a timetable that keeps it."""
    round_length = chance.choice([10, 30, 60, 120])
    events = chance.sample(list("abcdefghijkl"), chance.randrange(3, 13))
    minutes = {name: chance.randrange(round_length) for name in events}
    cut = chance.choice([0, 2, len(events) // 2])
    pieces = [piece for piece in [events[:cut], events[cut:]] if len(piece) > 1]
    spans = []
    for _ in range(chance.randrange(len(events), 25)):
        start, end = chance.sample(chance.choice(pieces), 2)
        width = chance.randrange(round_length - 2)
        least = (minutes[end] - minutes[start] - chance.randrange(width + 1)) % round_length
        spans.append((start, end, least, least + width, chance.choice([0, 1, 2, 5, 50, 99])))
    chance.shuffle(events)
    return Net(round_length, events, spans), Times(round_length, minutes)


def large_nets(count, seed):
    """The same nets each time, each with a timetable."""
    chance = random.Random(seed)
    return [large_net(chance) for _ in range(count)]


def small_nets(count, seed):
    """The same nets each time."""
    chance = random.Random(seed)
    return [small_net(chance) for _ in range(count)]


def passes(net, times, number):
    """The minutes that pass on the span, found by the words of point 6; None if it is not kept."""
    start, end, least, most, _ = net.span(number)
    for minutes in range(least, most + 1):
        if (minutes - times[end] + times[start]) % net.round_length == 0:
            return minutes
    return None


def all_times(net):
    """All timetables that keep the net."""
    every = [Times(net.round_length, dict(zip(net, minutes)))
             for minutes in itertools.product(range(net.round_length), repeat=len(net))]
    return [times for times in every
            if all(passes(net, times, number) is not None for number in range(len(net.spans)))]


def steps(net):
    return [(number, direction) for number in range(len(net.spans)) for direction in (1, -1)]


def step_ends(net, step):
    start, end = net.span(step[0])[:2]
    return (start, end) if step[1] == 1 else (end, start)


def all_walks(net, longest):
    """All walks with one step up to the longest number of them."""
    walks = [[step] for step in steps(net)]
    found = list(walks)
    for _ in range(longest - 1):
        walks = [[*walk, step] for walk in walks for step in steps(net)
                 if step_ends(net, walk[-1])[1] == step_ends(net, step)[0]]
        found += walks
    return found


def walk_total(walk, forward, backward):
    """The sum over the steps; the functions give the addend of a span by its number."""
    return sum([forward(number) if direction == 1 else backward(number) for number, direction in walk])


def greatest_turn(net, walk):
    return walk_total(walk, lambda number: net.span(number)[3], lambda number: -net.span(number)[2])


def slack_of(net, times, walk):
    return walk_total(walk, lambda number: net.span(number)[3] - passes(net, times, number),
                      lambda number: passes(net, times, number) - net.span(number)[2])
