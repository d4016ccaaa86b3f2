"""The squares modulo a number."""

from numberpapers.kinds import is_number
from numberpapers.knownparts import checked_parts
from numberpapers.lifting import roots_by
from numberpapers.powers import raised
from numberpapers.squareroots import bar_by


class Squares:
    """The squares modulo n."""

    def __init__(self, n, *, known=()):
        self._parts = checked_parts(n, known)
        self._modulus = n
        self._size = 1
        for q, k, _ in self._parts:
            self._size = self._size * part_size(q, k)

    @property
    def modulus(self):
        """The number n."""
        return self._modulus

    @property
    def size(self):
        """How many of the numbers from 0 to n - 1 are squares."""
        return self._size

    def __contains__(self, x):
        return is_number(x) and bar_by(x % self._modulus, self._parts) is None

    def __call__(self, a):
        return roots_by(a % self._modulus, self._parts)

    def __eq__(self, other):
        return isinstance(other, Squares) and self._modulus == other.modulus


def part_size(q, k):
    """How many of the numbers from 0 to q ** k - 1 are squares modulo q ** k."""
    # 0, and for each even height the units that are squares modulo what is left of the power.
    return 1 + sum([unit_squares(q, k - j) for j in range(0, k, 2)])


def unit_squares(q, k):
    """How many units of q ** k are squares."""
    if q == 2:
        return 1 if k <= 3 else 1 << (k - 3)
    return raised(q, k - 1) * (q - 1) // 2
