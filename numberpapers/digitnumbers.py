"""Numbers that are kept as rows of digits."""

from numberpapers.digits import need_row, number_of, row_of
from numberpapers.longdiv import divided
from numberpapers.sums import added, less, times


class Digits:
    """The number of a row."""

    def __init__(self, row):
        self._row = need_row(row)
        self._digits = row[1]
        self._number = number_of(row)

    @staticmethod
    def of(n, base):
        """That of the row of a number."""
        return Digits(row_of(n, base))

    @property
    def row(self):
        """The row."""
        return self._row

    @property
    def base(self):
        """The base of the row."""
        return self._row[0]

    @property
    def number(self):
        """The number."""
        return self._number

    def plus(self, other):
        """The sum."""
        return Digits(added(self._row, other.row))

    def minus(self, other):
        """This one less the other one."""
        return Digits(less(self._row, other.row))

    def times(self, other):
        """The product."""
        return Digits(times(self._row, other.row))

    def divided_by(self, other):
        """The quotient."""
        quotient, _ = divided(self._row, other.row)
        return Digits(quotient)

    def rest_by(self, other):
        """The rest."""
        _, rest = divided(self._row, other.row)
        return Digits(rest)

    def __eq__(self, other):
        return isinstance(other, Digits) and self._row == other.row

    def __len__(self):
        return len(self._digits)

    def __iter__(self):
        return iter(self._digits)
