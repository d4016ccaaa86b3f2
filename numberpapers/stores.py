"""Stores of short papers of primes."""

from numberpapers.errors import NotInStore, NotPaper, NotStore
from numberpapers.kinds import is_between, is_told, is_tuple
from numberpapers.primepapers import MOST_TRIED, is_prime_paper, is_same, places_within
from numberpapers.trees import are_rows

MOST_PRIME = (10 ** 60) ** 5


def store_breach(value):
    """None for a store, otherwise the rule that is broken and its place."""
    if not isinstance(value, tuple):
        return ("form", -1)
    last = 0
    # For each prime so far whether its short paper is a tree.
    trees = {}
    for place, pair in enumerate(value):
        rule = pair_breach(pair, last, trees)
        if rule is not None:
            return (rule, place)
        last, paper = pair
        trees[last] = is_short_tree(paper)
    return None


def pair_breach(pair, last, trees):
    """None for a pair of a store behind the prime last and those of the table, otherwise the rule that is broken."""
    if not is_tuple(pair, 2) or not is_between(pair[0], 2, MOST_PRIME) or not has_form(pair[0], pair[1]):
        return "form"
    p, paper = pair
    if p <= last:
        return "sequence"
    for q in seen_by(paper):
        if q not in trees or is_short_tree(paper) and not trees[q]:
            return "see"
    return "paper" if places_within(False, p, paper) is None else None


def has_form(p, value):
    """Whether a value has the form of a short paper of p."""
    if is_told(value, "tree", 2):
        tree = value[1]
        if not is_tuple(tree, 3) or not is_same(tree[0], p) or not is_between(tree[1], 1, p - 1):
            return False
        return are_short_rows(p, tree[2], 3)
    if is_told(value, "part", 3):
        return is_same(value[1], p) and are_short_rows(p, value[2], 4)
    if is_told(value, "lucas", 5):
        if not is_same(value[1], p) or not is_between(value[2], 0, p - 1) or not is_between(value[3], 1, p - 1):
            return False
        return are_short_rows(p, value[4], 3)
    return is_told(value, "tried", 2) and is_same(value[1], p) and p <= MOST_TRIED


def are_short_rows(p, value, size):
    """Whether a value is a tuple of rows (q, e, .., ("see", q)), of four entries with a number from 2 to p - 1."""
    if not are_rows(value, size):
        return False
    for row in value:
        if size == 4 and not is_between(row[2], 2, p - 1):
            return False
        if not is_told(row[-1], "see", 2) or not is_same(row[-1][1], row[0]):
            return False
    return True


def is_short_tree(paper):
    """Whether a short paper is a tree."""
    return paper[0] == "tree"


def rows_of(paper):
    """The rows of a paper, short or not."""
    if paper[0] == "tree":
        return paper[1][2]
    return () if paper[0] == "tried" else paper[-1]


def with_rows(paper, rows):
    """The same paper with other rows."""
    if paper[0] == "tree":
        return ("tree", paper[1][:2] + (rows,))
    return paper if paper[0] == "tried" else paper[:-1] + (rows,)


def seen_by(paper):
    """The primes that a short paper sees."""
    return [row[0] for row in rows_of(paper)]


def check_store(value):
    """Refuse what is no store."""
    breach = store_breach(value)
    if breach is not None:
        raise NotStore(breach[0], breach[1])


def store_of(papers):
    """The store of all primes of which a paper or a tree stands somewhere in papers."""
    for place, (p, value) in enumerate(papers):
        if not is_prime_paper(p, value):
            raise NotPaper(place)
    found = {}
    # The first one comes last, so that it is the next one to be taken.
    waiting = list(papers)[::-1]
    while waiting != []:
        p, paper = waiting.pop()
        if p not in found or is_short_tree(paper) and not is_short_tree(found[p]):
            found[p] = shortened(paper)
        inner = [(row[0], ("tree", row[-1]) if is_short_tree(paper) else row[-1]) for row in rows_of(paper)]
        waiting.extend(inner[::-1])
    return tuple([(p, found[p]) for p in sorted(found)])


def shortened(paper):
    """The short paper of a paper."""
    return with_rows(paper, tuple([row[:-1] + (("see", row[0]),) for row in rows_of(paper)]))


def opened(store, p):
    """The prime paper of p that comes of its pair in a store."""
    check_store(store)
    for q, paper in opened_pairs(store):
        if q == p:
            return paper
    raise NotInStore(p)


def opened_pairs(store):
    """The pairs (p, paper) of all primes of a store with their prime papers."""
    found = {}
    for p, paper in store:
        place = 1 if is_short_tree(paper) else 0
        rows = []
        for row in rows_of(paper):
            inner = found[row[0]]
            # In a tree stands the tree alone.
            rows.append(row[:-1] + (inner[place] if place == 1 else inner,))
        found[p] = with_rows(paper, tuple(rows))
    return tuple([(p, found[p]) for p in found])


def joined(one, other):
    """The store of the primes of two stores."""
    check_store(one)
    check_store(other)
    return surely_joined(one, other)


def surely_joined(one, other):
    """The same for what are surely stores."""
    found = {p: paper for p, paper in one}
    for p, paper in other:
        if p not in found or is_short_tree(paper) and not is_short_tree(found[p]):
            found[p] = paper
    return tuple([(p, found[p]) for p in sorted(found)])


def pruned(store, primes):
    """The pairs of these primes of a store, and of all primes that they see, and so on."""
    check_store(store)
    return surely_pruned(store, primes)


def surely_pruned(store, primes):
    """The same for what is surely a store."""
    papers = {p: paper for p, paper in store}
    kept = {}
    for p in primes:
        if p not in papers:
            raise NotInStore(p)
        kept[p] = True
    # What a pair sees lies ahead of it.
    for p, paper in store[::-1]:
        if p in kept:
            for q in seen_by(paper):
                kept[q] = True
    return tuple([(p, paper) for p, paper in store if p in kept])
