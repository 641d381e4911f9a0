"""Texts of nets, timetables, shifts and walks."""

from roundminutes.errors import BadRow, BadWord, MinuteError
from roundminutes.nets import Net, check_count, check_event, check_range, check_round_length, check_span
from roundminutes.shifts import Shift
from roundminutes.times import Times
from roundminutes.words import number_of, signed_of, values_of

NET_ROWS = {"round": ("number",), "event": ("word",), "span": ("word", "word", "number", "number", "number")}


def write_net(net):
    """Return the text of a net."""
    rows = [f"round {net.round_length}"]
    rows.extend([f"event {name}" for name in net])
    rows.extend([f"span {start} {end} {least} {most} {weight}" for start, end, least, most, weight in net.spans])
    return "\n".join(rows)


def net_row(row):
    """Return the kind of a row and its values, or None and no values if it has none of the forms."""
    words = row.split(" ")
    kind = words[0]
    values = values_of(words[1:], NET_ROWS[kind]) if kind in NET_ROWS else None
    return (None, []) if values is None else (kind, values)


def may_stand(kind, round_length, spans):
    """Tell whether a row of this kind may stand behind the rows that gave this round length and these spans."""
    if kind == "round":
        return round_length is None
    if kind == "event":
        return round_length is not None and not spans
    return kind == "span" and round_length is not None


def check_row(kind, values, round_length, events, spans):
    """Raise the error of a row of a net that stands behind the rows of these parts, if it has one."""
    if kind == "round":
        check_round_length(values[0])
    elif kind == "event":
        check_count(len(events) + 1, Net.EVENTS)
        check_event(values[0], events)
    else:
        check_count(len(spans) + 1, Net.SPANS)
        check_span(round_length, events, values)


def read_net(text):
    """Return the net of a text."""
    round_length = None
    events = []
    spans = []
    for number, row in enumerate(text.split("\n"), start=1):
        kind, values = net_row(row)
        if not may_stand(kind, round_length, spans):
            raise BadRow(number, None)
        try:
            check_row(kind, values, round_length, events, spans)
        except MinuteError as error:
            raise BadRow(number, error) from error
        if kind == "round":
            round_length = values[0]
        elif kind == "event":
            events.append(values[0])
        else:
            spans.append(tuple(values))
    return Net(round_length, events, spans)


def write_times(times):
    """Return the text of a timetable."""
    return " ".join([str(times.round_length)] + [f"{name}={times[name]}" for name in times])


def read_round_length(word):
    """Return the round length of the first word of a timetable's text."""
    round_length = number_of(word)
    if round_length is None:
        raise BadWord(0, None)
    try:
        check_round_length(round_length)
    except MinuteError as error:
        raise BadWord(0, error) from error
    return round_length


def read_times(text):
    """Return the timetable of a text."""
    words = text.split(" ")
    round_length = read_round_length(words[0])
    minutes = {}
    for at, word in enumerate(words[1:], start=1):
        name, _, digits = word.partition("=")
        minute = number_of(digits)
        if minute is None:
            raise BadWord(at, None)
        try:
            check_event(name, minutes)
            check_range(minute, 0, round_length - 1)
        except MinuteError as error:
            raise BadWord(at, error) from error
        minutes[name] = minute
    return Times(round_length, minutes)


def write_shift(shift):
    """Return the text of a shift."""
    return " ".join([f"{name}{entry:+d}" for name, entry in shift.moves.items()])


def words_of(text):
    """Return the words of a text that may be empty; then it has none."""
    return text.split(" ") if text != "" else []


def read_shift(text):
    """Return the shift of a text."""
    moves = {}
    for at, word in enumerate(words_of(text)):
        cut = min([place for place, sign in enumerate(word) if sign in ("+", "-")], default=len(word))
        name = word[:cut]
        entry = signed_of(word[cut:])
        if entry is None or entry == 0:
            raise BadWord(at, None)
        try:
            check_event(name, moves)
        except MinuteError as error:
            raise BadWord(at, error) from error
        moves[name] = entry
    return Shift(moves)


def write_walk(walk):
    """Return the text of a walk."""
    signs = {1: "+", -1: "-"}
    return " ".join([f"{number}{signs[direction]}" for number, direction in walk])


def read_walk(text):
    """Return the list of steps of a text."""
    directions = {"+": 1, "-": -1}
    walk = []
    for at, word in enumerate(words_of(text)):
        number = number_of(word[:-1])
        # If the number is there, the word has a last sign.
        if number is None or word[-1] not in directions:
            raise BadWord(at, None)
        walk.append((number, directions[word[-1]]))
    return walk
