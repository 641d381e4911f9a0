"""Timetables: a minute of the round for each name."""

from roundminutes.names import check_name
from roundminutes.nets import check_known, check_range, check_round_length


class Times:
    """A round length and a dict from names to minutes."""

    def __init__(self, round_length, minutes):
        check_round_length(round_length)
        for name, minute in minutes.items():
            check_name(name)
            check_range(minute, 0, round_length - 1)
        self._round_length = round_length
        self._minutes = dict(minutes)

    @staticmethod
    def zero(round_length, *names):
        """Return the timetable with all these names at minute 0."""
        return Times(round_length, {name: 0 for name in names})

    @property
    def round_length(self):
        """The number of minutes of a round."""
        return self._round_length

    @property
    def minutes(self):
        """The minute of each name, in the order of the dict that was passed in."""
        return dict(self._minutes)

    def __getitem__(self, name):
        check_known([name], self._minutes)
        return self._minutes[name]

    def __len__(self):
        return len(self._minutes)

    def __iter__(self):
        return iter(self._minutes)

    def __contains__(self, name):
        return name in self._minutes

    def __eq__(self, other):
        return (isinstance(other, Times) and self._round_length == other._round_length
                and self._minutes == other._minutes)

    def _wrapped(self, minutes):
        """Return the timetable of the same round length with these minutes, each taken modulo the round length."""
        return Times(self._round_length, {name: minutes[name] % self._round_length for name in minutes})

    def __add__(self, other):
        check_known(other, self._minutes)
        return self._wrapped({name: self._minutes[name] + other[name] for name in self._minutes})

    def __sub__(self, other):
        return self + -other

    def __rshift__(self, other):
        return self._wrapped({name: self._minutes[name] + other for name in self._minutes})

    def __lshift__(self, other):
        return self >> -other

    def mirrored(self):
        """Return the timetable with each minute m replaced by -m modulo the round length."""
        return self._wrapped({name: -self._minutes[name] for name in self._minutes})
