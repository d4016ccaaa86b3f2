"""Pell's equation."""

from numberpapers.chains import convergents
from numberpapers.kinds import are_numbers
from numberpapers.rivers import river, round_by, turn_by
from numberpapers.surds import check_no_square, surd_chain


def root_river(N):
    """The letters and the forms of one round of the form that is t * t - N * u * u at (t, u)."""
    check_no_square(N)
    return river((1, 0, -N))


def pell(N):
    """The pair (t, u) from 1 on with t * t - N * u * u = 1 and the least t."""
    letters, _ = root_river(N)
    (t, _), (u, _) = turn_by(letters)
    return (t, u)


def pell_all(N, count):
    """The first such pairs, so many."""
    t, u = pell(N)
    found = [(t, u)]
    for _ in range(count - 1):
        v, w = found[-1]
        found.append((t * v + N * u * w, t * w + u * v))
    return tuple(found)


def pell_below(N):
    """The pair (t, u) from 1 on with t * t - N * u * u = -1 and the least t, or None."""
    letters, forms = root_river(N)
    if (N, 0, -1) not in forms:
        return None
    (_, t), (_, u) = turn_by(letters[:forms.index((N, 0, -1))])
    return (t, u)


def pell_value(N, m):
    """The proper pairs (p, q) from 1 on, up to that of pell(N), with p * p - N * q * q = m, which is below the root."""
    root_river(N)
    head, period = surd_chain(N)
    # A round of the river is an even number of entries; the ratio of its beginning is that of pell(N).
    entries = period if len(period) % 2 == 0 else period + period
    # Pairs of so small a value are among the ratios of the chain's beginnings.
    return tuple([(p, q) for p, q in convergents((head,) + entries[:-1]) if p * p - N * q * q == m])


def is_least_pell(N, value, letters):
    """Whether letters are the text of one round, and a value is the pair of pell(N)."""
    check_no_square(N)
    if round_by((1, 0, -N), letters) is None or not are_numbers(value, 2):
        return False
    return comes_to(letters, value)


def comes_to(letters, pair):
    """Whether a pair is the first column of the turn behind the letters."""
    (p, q), (r, s) = (1, 0), (0, 1)
    for letter in letters:
        if letter == "l":
            p, r = p + q, r + s
        else:
            q, s = p + q, r + s
        # The turn of a long text is not worked out beyond the pair.
        if p > pair[0]:
            return False
    return (p, r) == pair


def is_no_pell_below(N, letters):
    """Whether letters are the text of one round on which there is no form for -1."""
    check_no_square(N)
    forms = round_by((1, 0, -N), letters)
    return forms is not None and (N, 0, -1) not in forms
