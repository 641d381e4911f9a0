"""The minutes that pass on spans, and whether a timetable keeps a net."""

from roundminutes.errors import BadNumber, BrokenSpan, WrongNames


def check_names(net, times):
    """Raise BadNumber if the round lengths differ, WrongNames if the names do."""
    if times.round_length != net.round_length:
        raise BadNumber(times.round_length)
    for name in net:
        if name not in times:
            raise WrongNames(name)
    for name in times:
        if name not in net:
            raise WrongNames(name)


def on_span(times, span):
    """Return the minutes that pass on the span, or None if it is not kept."""
    start, end, least, most, _ = span
    minutes = least + (times[end] - times[start] - least) % times.round_length
    return minutes if minutes <= most else None


def on_all_spans(net, times):
    """Return the minutes that pass on each span, None for one that is not kept; the names are examined first."""
    check_names(net, times)
    return [on_span(times, span) for span in net.spans]


def kept_minutes(net, times):
    """Return the minutes that pass on each span, or raise the first error if the timetable does not keep the net."""
    minutes = on_all_spans(net, times)
    if None in minutes:
        raise BrokenSpan(minutes.index(None))
    return minutes


def check_times(net, times):
    """Raise the first error if the timetable does not keep the net."""
    kept_minutes(net, times)


def passed(net, times, number):
    """Return the minutes that pass on the span with this number, or None if it is not kept."""
    check_names(net, times)
    return on_span(times, net.span(number))


def broken(net, times):
    """Return the numbers of the spans that are not kept."""
    return [number for number, minutes in enumerate(on_all_spans(net, times)) if minutes is None]


def waits_of(spans, minutes):
    """Return the weighted sum of the minutes beyond the least ones, if these minutes pass on the spans."""
    return sum([span[4] * (passing - span[2]) for span, passing in zip(spans, minutes)])


def minutes_after(spans, minutes, shift):
    """Return the minutes that pass on the spans after a shift, if these minutes passed before."""
    return [passing + shift[span[1]] - shift[span[0]] for span, passing in zip(spans, minutes)]


def waits(net, times):
    """Return the weighted sum of the minutes that pass beyond the least ones."""
    return waits_of(net.spans, kept_minutes(net, times))
