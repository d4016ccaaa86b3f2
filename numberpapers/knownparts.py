"""Prime parts with papers, by primes that come with papers of their own."""

from numberpapers.errors import NotPaper, TooHard
from numberpapers.powers import raised
from numberpapers.primepapers import is_prime_paper
from numberpapers.soft import TRIED, leftover_of, soft_links
from numberpapers.trees import linked_rows
from numberpapers.trials import height_in


def check_known(known):
    """Refuse pairs (q, paper) of which one's paper is no prime paper of its q."""
    for place, (q, paper) in enumerate(known):
        if not is_prime_paper(q, paper):
            raise NotPaper(place)


def told_parts(n, known):
    """The triples (p, e, paper) of all primes that divide n with their full powers and papers; TooHard if not told."""
    row, left = leftover_of(n)
    rows = [(p, e, ("tried", p)) for p, e in row]
    for q, paper in known:
        e = height_in(left, q)
        if e > 0:
            rows.append((q, e, paper))
            left = left // raised(q, e)
    links = soft_links(left)
    if links is None:
        raise TooHard(TRIED)
    great = [(q, e, ("tree", tree)) for q, e, tree in linked_rows(links)]
    return tuple(sorted(rows + great))


def checked_parts(n, known):
    """What told_parts returns, behind check_known."""
    check_known(known)
    return told_parts(n, known)
