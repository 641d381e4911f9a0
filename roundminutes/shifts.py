"""Shifts: by how many minutes each event is moved."""

from roundminutes.errors import BadNumber
from roundminutes.names import check_name


class Shift:
    """Entries by name: later if positive, earlier if negative. A name without an entry is moved by 0."""

    def __init__(self, moves):
        for name in moves:
            check_name(name)
        self._moves = {name: moves[name] for name in sorted(moves) if moves[name] != 0}

    @classmethod
    def together(cls, *names, minutes=1):
        """Return the shift that has this entry for each of the names."""
        return cls({name: minutes for name in names})

    @property
    def moves(self):
        """The entries that are not 0, names in ascending order."""
        return dict(self._moves)

    @property
    def size(self):
        """The sum of the absolute values of the entries."""
        return sum([abs(self._moves[name]) for name in self._moves])

    @property
    def height(self):
        """The greatest absolute value of an entry, or 0 without entries."""
        return max([abs(self._moves[name]) for name in self._moves], default=0)

    def __getitem__(self, name):
        return self._moves.get(name, 0)

    def __len__(self):
        return len(self._moves)

    def __iter__(self):
        return iter(self._moves)

    def __contains__(self, name):
        return name in self._moves

    def __eq__(self, other):
        return isinstance(other, Shift) and self._moves == other._moves

    def __add__(self, other):
        return Shift({name: self[name] + other[name] for name in [*self, *other]})

    def __sub__(self, other):
        return self + -other

    def __or__(self, other):
        return Shift({name: max(self[name], other[name]) for name in [*self, *other]})

    def __and__(self, other):
        return Shift({name: min(self[name], other[name]) for name in [*self, *other]})

    def __neg__(self):
        return self * -1

    def __abs__(self):
        return self | -self

    def __mul__(self, other):
        return Shift({name: self[name] * other for name in self})

    def __rmul__(self, other):
        return self * other

    def __floordiv__(self, other):
        if other < 1:
            raise BadNumber(other)
        return Shift({name: self[name] // other for name in self})


def latest(*shifts):
    """Return all shifts joined by |."""
    # Not joined to the empty shift: its entries 0 would be greater than negative ones.
    found = shifts[0] if shifts else Shift({})
    for shift in shifts[1:]:
        found = found | shift
    return found


def earliest(*shifts):
    """Return all shifts joined by &."""
    found = shifts[0] if shifts else Shift({})
    for shift in shifts[1:]:
        found = found & shift
    return found


def middle(first, second, third):
    """Return the shift with the middle one of the three entries of each name."""
    return (first & second) | (second & third) | (first & third)
