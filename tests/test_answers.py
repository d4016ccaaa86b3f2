import math
import unittest

from numberpapers.answers import answer
from numberpapers.errors import NotClaim, NotPaper, TooHard, TooMany
from numberpapers.fibonacci import round_denial
from numberpapers.judging import judge
from numberpapers.logs import log_paper
from numberpapers.orders import order_denial
from numberpapers.pell import pell_below
from numberpapers.primepapers import paper_by
from numberpapers.sayings import KINDS, opposite, size_of
from numberpapers.told import told
from tests.hard import CASES, HARD, HARD_PAPER, HARDER, HARDER_PAPER
from tests.helpers import ANY, STRANGE, changed, differs, refused, some
from tests.judges import KNOWN, P, Q, R, TOO_HARD, WRONG_KNOWN, told_by, tried
from tests.primes import PRIMES, is_prime, leftover, passes
from tests.saidcases import drawn_claim, great_claims, small_claims
from tests.sayingjudges import claim_wrong, right
from tests.test_fibonacci import is_told as is_round_told
from tests.test_trees import DECEIVER, SOFT_DECEIVERS
from tests.unitcases import GREATS, LACKING, NEEDED, number
from tests.unitcases import is_told as are_units_told

STEPS, SIXTY, LETTERS = {"limit": 10 ** 6}, {"limit": 64}, {"limit": 5000}
BOUNDS = {"prime": 24, "whole": 32, "two squares": 32, "order": 32, "root": 32, "rooted": 32, "round": 32, "perfect": 32, "circle": 32, "power": 64}
FIXED = ("common", "rests", "four squares", "minus one")


def greatest(claim):
    if isinstance(claim, tuple):
        return max([greatest(entry) for entry in claim] + [0])
    return claim if isinstance(claim, int) else 0


def is_small_enough(claim, paper):
    """Whether a paper has a size as [112] tells it."""
    b, kind = max(4, greatest(claim).bit_length()), claim[0]
    if kind in FIXED:
        return size_of(paper) <= 8
    if kind == "square":
        return size_of(paper) <= 24 * b + 40
    return kind == "tells" or size_of(paper) <= BOUNDS[kind] * b


def is_too_hard(n, primes):
    """Whether ("prime", n) raises TooHard [112]."""
    if n < 10 ** 10 or n in primes or n % 2 == 0 or any(n % p == 0 for p in PRIMES) or not passes(n):
        return False
    return not told_by(n - 1, primes)


class Checks:
    def check(self, claim, known=()):
        value = answer(claim, known)
        self.assertTrue(type(value) is tuple and len(value) == 2)
        saying, paper = value
        self.assertFalse(differs(saying[1], claim))
        self.assertTrue(right(saying, paper), value)
        self.assertIs(judge(saying, paper), True)
        self.assertIs(judge(opposite(saying), paper), False)
        self.assertTrue(is_small_enough(claim, paper), (claim, size_of(paper)))
        return saying[0]


class Answers(Checks, unittest.TestCase):  # [112]
    def test_small_claims(self):
        counts = {}
        for claim in small_claims():
            counts.setdefault(claim[0], set()).add(self.check(claim))
        self.assertEqual(set(counts), set(KINDS))
        self.assertTrue(all(words == {"is", "not"} for kind, words in counts.items() if kind != "four squares"))

    def test_great_claims(self):
        counts = {}
        for claim in great_claims():
            self.assertIsNone(claim_wrong(claim))
            try:
                self.check(claim)
            except (TooHard, TooMany) as error:
                self.assertTrue(self.may_refuse(claim, error), (claim, error.limit))
                counts[claim[0]] = counts.get(claim[0], 0) + 1
        self.assertLess(sum(counts.values()), 120)

    def test_drawn_claims(self):
        source, refusals = some(797), 0
        for kind in KINDS:
            words = set()
            for _ in range(250):
                claim = drawn_claim(source, kind)
                self.assertIsNone(claim_wrong(claim))
                try:
                    words.add(self.check(claim))
                except (TooHard, TooMany):
                    refusals += 1
            if kind not in ("four squares", "perfect"):
                self.assertEqual(words, {"is", "not"}, kind)
        self.assertLess(refusals, 200)

    def may_refuse(self, claim, error):
        """Whether an error is due for a claim, nothing known; by the functions that [112] names."""
        kind, n = claim[0], claim[1]
        if kind == "prime":
            return is_too_hard(n, [])
        if kind == "order":
            return pow(claim[1], claim[3], claim[2]) == 1 and not told_by(claim[3], [])
        if kind == "power":
            return error.limit == 10 ** 6
        if kind == "circle":
            return is_too_hard(claim[3], [])
        if kind == "minus one":
            return error.limit == 5000
        return kind in ("round", "tells") and not told_by(claim[2], [])

    def test_no_claims(self):
        for value in list(ANY) + [c for claim in small_claims()[::9] for c in changed(claim)]:
            wrong = claim_wrong(value)
            if wrong is not None:
                refused(self, NotClaim, {"rule": wrong[0], "place": wrong[1]}, answer, value)
                refused(self, NotClaim, {"rule": wrong[0], "place": wrong[1]}, answer, value, KNOWN)
        for value in ANY + (("prime", 7), ("prime", P * Q)):
            for known, place in WRONG_KNOWN:
                refused(self, NotPaper, {"place": place}, answer, value, known)
        for value in STRANGE:
            refused(self, NotPaper, {"place": 0}, answer, ("prime", 5), ((7, value),))
            refused(self, NotPaper, {"place": 1}, answer, ("prime", 5), (tried(2)[0], (7, value)))


class Refusals(Checks, unittest.TestCase):  # [112]
    """What is too hard, for each kind, and just there."""

    def test_primes(self):
        numbers = [n for n, _, _ in CASES if n <= 10 ** 300] + [HARD, HARDER, DECEIVER, P, Q, 10 ** 10 + 19, HARD * HARDER, P * HARD, 2 * HARD, 99991 * HARD, 2 ** 127 - 1, 2 ** 89 - 1]
        numbers += SOFT_DECEIVERS
        words = {}
        for n in numbers:
            for known in ((), tried(2, 3), tried(P), KNOWN, ((HARD, HARD_PAPER),), ((HARDER, HARDER_PAPER),)):
                primes = [q for q, _ in known]
                for claim in (("prime", n), ("circle", 12, 7, n), ("whole", n, ((n, 1),)), ("whole", 3 * n, ((3, 1), (n, 1)))):
                    if claim[0] == "circle" and n > 10 ** 40 or claim[0] == "whole" and claim[1] > 10 ** 300:
                        continue
                    if is_too_hard(n, primes):
                        refused(self, TooHard, TOO_HARD, answer, claim, known)
                        words["hard"] = True
                    else:
                        word = self.check(claim, known)
                        if claim[0] != "circle":
                            self.assertEqual(word, "is" if is_prime(n) else "not")
                        words[word] = True
        self.assertEqual(set(words), {"hard", "is", "not"})
        self.assertEqual(answer(("prime", HARD), ((HARD, HARD_PAPER),)), (("is", ("prime", HARD)), HARD_PAPER))

    def test_whole(self):
        # The first one that is not prime ends it; ahead of it none may be too hard.
        for row, known, word in (
            (((4, 1), (HARD, 1)), (), "not"), (((5, 1), (HARD, 1)), (), "hard"), (((9, 1), (HARD, 1)), (), "not"), (((HARD, 1), (2 * HARD, 1)), (), "hard"), (((HARD, 1), (2 * HARD, 1)), tried(P), "not"),
            (((5, 1), (HARD, 1)), tried(P), "is"), (((5, 1), (HARD, 1)), ((HARD, HARD_PAPER),), "is"), (((HARD, 1), (5, 1)), (), "not"), (((5, 0), (HARD, 1)), (), "not"),
        ):
            n = math.prod(p ** e for p, e in row)
            if word == "hard":
                refused(self, TooHard, TOO_HARD, answer, ("whole", n, row), known)
            else:
                self.assertEqual(self.check(("whole", n, row), known), word)
            self.assertEqual(self.check(("whole", n + 1, row), ()), "not")

    def test_orders(self):
        hard = P * Q
        for a, n in ((1, 7), (1, 2), (1, 10 ** 40), (1, hard), (2, 7), (0, 7), (0, hard), (P, hard), (3, hard)):
            for known in ((), tried(2), tried(P)):
                try:
                    wanted = order_denial(a, n, hard, known)
                except TooHard:
                    wanted = "hard"
                if wanted == "hard":
                    refused(self, TooHard, TOO_HARD, answer, ("order", a, n, hard), known)
                else:
                    self.assertEqual(self.check(("order", a, n, hard), known), "is" if wanted is None else "not")
        self.assertEqual(self.check(("order", 1, hard, 1)), "is")
        self.assertEqual(self.check(("order", hard - 1, hard, 2)), "is")

    def test_rounds(self):
        hard = P * Q
        for m in (1, 2, 5, 7, hard):
            for r in (hard, 60 * hard, 3 * hard, 1, 16):
                for known in ((), tried(Q)):
                    try:
                        wanted = round_denial(m, r, known)
                    except TooHard:
                        wanted = "hard"
                    if wanted == "hard":
                        refused(self, TooHard, TOO_HARD, answer, ("round", m, r), known)
                    else:
                        self.assertEqual(self.check(("round", m, r), known), "is" if wanted is None else "not")
        refused(self, TooHard, TOO_HARD, answer, ("round", 1, hard))
        self.assertTrue(is_round_told(((2, 1),), ()))

    def test_units(self):
        for parts, known in tuple((parts, ()) for parts in GREATS) + NEEDED + LACKING + tuple((parts, ()) for parts, _ in NEEDED):
            n = number(parts)
            if n > 10 ** 40:
                continue
            is_fine = are_units_told(parts, known)
            claims = [("rooted", n), ("root", 0, n), ("root", 1, n), ("root", n - 1, n), ("power", 1, 1, n), ("power", 1, n - 1, n), ("power", n - 1, 1, n)]
            for claim in claims:
                if is_fine:
                    self.check(claim, known)
                else:
                    refused(self, TooHard, TOO_HARD, answer, claim, known)

    def test_logarithms(self):
        source = some(751)
        found = {}
        for parts, known in tuple((parts, ()) for parts in GREATS) + NEEDED:
            n = number(parts)
            units = [a for a in (source.randrange(n) for _ in range(60)) if math.gcd(a, n) == 1][:2]
            for a in units:
                for b in units + [pow(a, 77, n)]:
                    try:
                        wanted = log_paper(a, b, n, known)[0]
                    except TooHard as error:
                        wanted = error.limit
                    found[wanted] = True
                    if wanted == 10 ** 6:
                        refused(self, TooHard, STEPS, answer, ("power", a, b, n), known)
                    else:
                        self.assertEqual(self.check(("power", a, b, n), known), wanted)
        self.assertEqual(set(found), {"is", "not", 10 ** 6})

    def test_parts(self):
        for n, known, more in CASES:
            if n > 10 ** 40:
                continue
            for claim in (("square", 0, n), ("square", 1, n), ("square", n - 1, n), ("two squares", n), ("perfect", n)):
                refused(self, TooHard, TOO_HARD, answer, claim)
                refused(self, TooHard, TOO_HARD, answer, claim, tried(2, 5))
                self.check(claim, known)
                self.check(claim, more)
            for f in ((1, 0, 1), (1, 1, 6), (2, 1, 3)):
                if math.gcd(n, 2 * (f[1] ** 2 - 4 * f[0] * f[2])) == 1:
                    refused(self, TooHard, TOO_HARD, answer, ("tells", f, n))
                    self.assertEqual(self.check(("tells", f, n), known), "is" if told(f, n, known)[0] == "pair" else "not")
        self.assertEqual(self.check(("two squares", 0)), "is")
        self.assertEqual(self.check(("four squares", P * Q)), "is")

    def test_too_many(self):
        ones = [p for p in PRIMES[:200] if p % 4 == 1]
        refused(self, TooMany, SIXTY, answer, ("tells", (1, 0, 1), math.prod(ones[:8])))
        self.assertEqual(self.check(("tells", (1, 0, 1), math.prod(ones[:7]))), "is")
        self.assertEqual(self.check(("tells", (1, 0, 1), 3 * math.prod(ones[:8]))), "not")
        refused(self, TooHard, TOO_HARD, answer, ("tells", (1, 0, 1), math.prod(ones[:7]) * P * Q))
        for d, is_refused in ((1250 ** 2 + 1, False), (1251 ** 2 + 1, True), (1666 ** 2 + 2, False), (1667 ** 2 + 2, True), (10 ** 12 - 1, True)):
            if is_refused:
                refused(self, TooMany, LETTERS, answer, ("minus one", d))
            else:
                self.assertEqual(self.check(("minus one", d)), "not" if pell_below(d) is None else "is")

    def test_sizes_with_known_papers(self):
        # Papers of known primes as long as may be: all rows, none in trees.
        found = {2: ("tree", (2, 1, ()))}
        for p in PRIMES[1:400]:
            rows = tuple((q, found[q]) for q in sorted(found) if (p - 1) % q == 0)
            other = tuple((q, found[q]) for q in sorted(found) if (p + 1) % q == 0)
            papers = [paper_by(p, lot) for lot in (rows, other) if p > 3 and lot] + [("tried", p)]
            found[p] = max((paper for paper in papers if paper is not None), key=size_of)
            known = tuple((q, found[q]) for q in sorted(found))[-30:] if p > 100 else ()
            if known and p % 7 == 1:
                for claim in (("prime", p), ("whole", p * 2, ((2, 1), (p, 1))), ("two squares", p * 3), ("square", 3, p), ("order", 2, p, p - 1), ("root", 3, p), ("rooted", p), ("rooted", 15 * p), ("perfect", p), ("circle", 3, 5, p), ("power", 2, 5, p)):
                    self.check(claim, known)
        n = math.prod(PRIMES[:26])
        known = tuple((q, found[q]) for q in PRIMES[:26])
        for claim in (("perfect", n), ("two squares", n), ("square", 7 * 5, n), ("root", 1, n), ("rooted", 2 * 101), ("order", 1, 7, n), ("whole", n, tuple((q, 1) for q in PRIMES[:26]))):
            self.check(claim, known)
        self.assertEqual(R - Q, 24)
        self.assertEqual(leftover(8), (((2, 3),), 1))
