"""The errors of the package."""


class NumberError(ValueError):
    """Anything that the package refuses."""


class NotFit(NumberError):
    """Two things do not go together: rows of unlike bases, say."""


class TooSmall(NumberError):
    """A number would have to be taken from a lesser one."""


class ByNought(NumberError):
    """A division by 0."""


class TooShort(NumberError):
    """A divisor has too few digits."""


class TooGreat(NumberError):
    """A number is too great for its places."""


class NotPrime(NumberError):
    """A number is not prime."""


class IsPrime(NumberError):
    """A number is prime."""


class NotUnit(NumberError):
    """A number is no unit."""


class NoRoot(NumberError):
    """There is no root."""


class NotRoot(NumberError):
    """A number is no root."""


class NotProper(NumberError):
    """A pair is no proper way."""


class NotTurn(NumberError):
    """A value is no turn."""


class NotDiscriminant(NumberError):
    """A number is no discriminant."""


class NotPrimitive(NumberError):
    """A form is not primitive."""


class NotSame(NumberError):
    """Two discriminants are unlike."""


class NotWord(NumberError):
    """A text is none of the words."""


class NotTurned(NumberError):
    """A row of values can not be turned back."""


class NoHeight(NumberError):
    """0 has no height."""


class NotNear(NumberError):
    """A number is not near to 1."""


class NotSimple(NumberError):
    """A polynomial has a root twice."""


class NotDeed(NumberError):
    """A value is no deed."""


class NotDone(NumberError):
    """No deed stands."""


class NotUndone(NumberError):
    """No deed was taken back."""


class NotRow(NumberError):
    """A value is no row; the place is the first wrong one."""

    def __init__(self, place):
        self.place = place


class NotPaper(NumberError):
    """A paper is wrong; the place is its index."""

    def __init__(self, place):
        self.place = place


class NotSmooth(NumberError):
    """A number has a great prime; the place is its index."""

    def __init__(self, place):
        self.place = place


class NotSheet(NumberError):
    """A value is no sheet; the place is the first wrong one."""

    def __init__(self, place):
        self.place = place


class Clash(NumberError):
    """Two conditions, told by their indexes, have no number together."""

    def __init__(self, one, other):
        self.one = one
        self.other = other


class NoUnit(NumberError):
    """A number has a common part above 1 with its modulus."""

    def __init__(self, common):
        self.common = common


class Barred(NumberError):
    """A common part does not divide what it should."""

    def __init__(self, common):
        self.common = common


class HasCommon(NumberError):
    """Two numbers have a common part above 1."""

    def __init__(self, common):
        self.common = common


class TooMany(NumberError):
    """There are more things than the limit."""

    def __init__(self, limit):
        self.limit = limit


class TooWide(NumberError):
    """Bounds are too wide for the limit."""

    def __init__(self, limit):
        self.limit = limit


class TooDeep(NumberError):
    """Something lies deeper than the limit."""

    def __init__(self, limit):
        self.limit = limit


class TooHard(NumberError):
    """The answer is out of reach with the limit."""

    def __init__(self, limit):
        self.limit = limit


class NotForm(NumberError):
    """A value is no form; the rule is the first broken one."""

    def __init__(self, rule):
        self.rule = rule


class NotRiver(NumberError):
    """A value is no river form; the rule is the first broken one."""

    def __init__(self, rule):
        self.rule = rule


class IsSquare(NumberError):
    """A number is the square of the root."""

    def __init__(self, root):
        self.root = root


class NotStore(NumberError):
    """A value is no store; rule and place are the first broken ones."""

    def __init__(self, rule, place):
        self.rule = rule
        self.place = place


class NotInStore(NumberError):
    """A store has no pair of the prime."""

    def __init__(self, prime):
        self.prime = prime


class NotClaim(NumberError):
    """A value is no claim; rule and place are the first broken ones."""

    def __init__(self, rule, place):
        self.rule = rule
        self.place = place
