"""The errors that the program raises."""


class MinuteError(ValueError):
    """The base class of all errors of the program."""


class BadName(MinuteError):
    """A string that is no name, where a name is needed."""

    def __init__(self, name):
        self.name = name


class BadNumber(MinuteError):
    """A number that is out of its range."""

    def __init__(self, number):
        self.number = number


class UnknownEvent(MinuteError):
    """A name that is no event."""

    def __init__(self, name):
        self.name = name


class DoubleEvent(MinuteError):
    """An event that occurs twice."""

    def __init__(self, name):
        self.name = name


class SameEvent(MinuteError):
    """A span that ends at the event at which it starts."""

    def __init__(self, name):
        self.name = name


class WrongNames(MinuteError):
    """A name that only one of a net and a timetable has."""

    def __init__(self, name):
        self.name = name


class HeldEvent(MinuteError):
    """A held event that would have to move."""

    def __init__(self, name):
        self.name = name


class UnknownSpan(MinuteError):
    """A number that no span has."""

    def __init__(self, number):
        self.number = number


class BrokenSpan(MinuteError):
    """The number of a span that is not kept."""

    def __init__(self, number):
        self.number = number


class TooMany(MinuteError):
    """A count above its limit."""

    def __init__(self, count, limit):
        self.count = count
        self.limit = limit


class WrongCount(MinuteError):
    """The length of a list, and the length that it must have."""

    def __init__(self, count, wanted):
        self.count = count
        self.wanted = wanted


class BadWalk(MinuteError):
    """The index of the first step that makes a list of steps no walk."""

    def __init__(self, at):
        self.at = at


class ShutRing(MinuteError):
    """A ring that shuts out what was asked for."""

    def __init__(self, way):
        self.way = list(way)


class Stuck(MinuteError):
    """A held event that a push would move, and a walk that shows it."""

    def __init__(self, name, way):
        self.name = name
        self.way = list(way)


class Barred(MinuteError):
    """A bar, the reason why no moves lead to the goal."""

    def __init__(self, reason):
        self.reason = reason


class BadRow(MinuteError):
    """The number of a bad row, from 1, and the error behind it or None."""

    def __init__(self, row, why):
        self.row = row
        self.why = why


class BadWord(MinuteError):
    """The number of a bad word, from 0, and the error behind it or None."""

    def __init__(self, at, why):
        self.at = at
        self.why = why


class NothingLeft(MinuteError):
    """There is nothing to undo, redo or step to."""
