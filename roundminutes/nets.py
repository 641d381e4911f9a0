"""Nets: events that come again in each round, and the spans between them."""

from roundminutes.errors import BadNumber, DoubleEvent, SameEvent, TooMany, UnknownEvent, UnknownSpan
from roundminutes.names import check_name


def check_range(number, low, high):
    """Raise BadNumber unless the number lies from low to high."""
    if not low <= number <= high:
        raise BadNumber(number)


def check_round_length(round_length):
    """Raise BadNumber unless this can be the length of a round."""
    check_range(round_length, Net.SHORTEST, Net.LONGEST)


def check_count(count, limit):
    """Raise TooMany if the count is above the limit."""
    if count > limit:
        raise TooMany(count, limit)


def check_event(name, before):
    """Raise the error of an event that comes after the events before it, if it has one."""
    check_name(name)
    if name in before:
        raise DoubleEvent(name)


def check_known(names, known):
    """Raise UnknownEvent for the first of the names that is not among the known ones."""
    for name in names:
        if name not in known:
            raise UnknownEvent(name)


def check_span(round_length, events, span):
    """Raise the first error of a span between two of the events, if it has one."""
    start, end, least, most, weight = span
    check_known([start, end], events)
    if start == end:
        raise SameEvent(start)
    check_range(least, 0, round_length - 1)
    # At least two minutes of each round stay shut, so that no move jumps over them.
    check_range(most, least, least + round_length - 3)
    check_range(weight, 0, Net.HEAVIEST)


def check_net(round_length, events, spans):
    """Raise the first error of the parts of a net, if they have one."""
    check_round_length(round_length)
    check_count(len(events), Net.EVENTS)
    for at, name in enumerate(events):
        check_event(name, events[:at])
    check_count(len(spans), Net.SPANS)
    for span in spans:
        check_span(round_length, events, span)


def joined(leaders, first, second):
    """Return the leaders of all names after the parts of two names have got the same leader."""
    kept, dropped = leaders[first], leaders[second]
    return {name: kept if leaders[name] == dropped else leaders[name] for name in leaders}


def pieces_of(events, spans):
    """Return the lists of events that the spans connect, in the order of the events."""
    leaders = {name: name for name in events}
    for span in spans:
        leaders = joined(leaders, span[0], span[1])
    pieces = {}
    for name in events:
        pieces.setdefault(leaders[name], []).append(name)
    return list(pieces.values())


class Net:
    """A round length, a list of events and a list of spans (start, end, least, most, weight)."""

    SHORTEST = 3
    LONGEST = 120
    EVENTS = 12
    SPANS = 24
    HEAVIEST = 99

    def __init__(self, round_length, events, spans):
        check_net(round_length, events, spans)
        self._round_length = round_length
        self._events = list(events)
        self._spans = list(spans)

    @classmethod
    def of(cls, round_length, *spans):
        """Return the net of these spans, with the events in the order of their first occurrence."""
        events = []
        for span in spans:
            for name in span[:2]:
                if name not in events:
                    events.append(name)
        return cls(round_length, events, list(spans))

    @property
    def round_length(self):
        """The number of minutes of a round."""
        return self._round_length

    @property
    def events(self):
        """The names of the events, in the order of the net."""
        return list(self._events)

    @property
    def spans(self):
        """The spans, in the order of their numbers."""
        return list(self._spans)

    @property
    def pieces(self):
        """The lists of events that spans connect."""
        return pieces_of(self._events, self._spans)

    def __len__(self):
        return len(self._events)

    def __iter__(self):
        return iter(self._events)

    def __contains__(self, name):
        return name in self._events

    def __eq__(self, other):
        return (isinstance(other, Net) and self._round_length == other._round_length
                and self._events == other._events and self._spans == other._spans)

    def _check_number(self, number):
        """Raise UnknownSpan if no span has this number."""
        # A list would give its last items for negative numbers.
        if not 0 <= number < len(self._spans):
            raise UnknownSpan(number)

    def span(self, number):
        """Return the span with this number."""
        self._check_number(number)
        return self._spans[number]

    def with_span(self, start, end, least, most, *, weight=1):
        """Return a new net with this span after the others."""
        return Net(self._round_length, self._events, [*self._spans, (start, end, least, most, weight)])

    def without(self, *numbers):
        """Return a new net without the spans with these numbers."""
        for number in numbers:
            self._check_number(number)
        left = [span for number, span in enumerate(self._spans) if number not in numbers]
        return Net(self._round_length, self._events, left)

    def changed(self, number, *, least, most):
        """Return a new net in which the span with this number has these bounds."""
        old = self.span(number)
        spans = list(self._spans)
        spans[number] = (old[0], old[1], least, most, old[4])
        return Net(self._round_length, self._events, spans)

    def mirrored(self):
        """Return a new net in which each span leads from its end to its start."""
        turned = [(end, start, least, most, weight) for start, end, least, most, weight in self._spans]
        return Net(self._round_length, self._events, turned)
