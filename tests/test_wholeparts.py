import math
import unittest

from numberpapers.errors import NotPaper, TooHard
from numberpapers.wholeparts import either, whole_breach, whole_parts
from tests.hard import CASES, HARD, HARD_PAPER, HARDER, SOFT, tower
from tests.helpers import ANY, changed, refused, some
from tests.judges import KNOWN, P, Q, R, TOO_HARD, WRONG_KNOWN, factors, told_by, tried, whole
from tests.primes import PRIMES, breach, is_prime, leftover, root, soft
from tests.test_primepapers import GREAT_PAPERS
from tests.test_soft import ABOVE, BELOW, edges, towers
from tests.test_trees import DECEIVER, SOFT_DECEIVERS


class Breaches(unittest.TestCase):  # [46]
    def both(self, n, value):
        wanted = whole(n, value)
        found = whole_breach(n, value)
        self.assertEqual(found, wanted, (n, value))
        self.assertIs(type(found), type(wanted))
        return found

    def test_right_papers(self):
        self.assertIsNone(self.both(1, ("whole parts", 1, ())))
        self.assertIsNone(self.both(12, ("whole parts", 12, ((2, 2, ("tried", 2)), (3, 1, ("tried", 3))))))
        self.assertIsNone(self.both(2 ** 996, ("whole parts", 2 ** 996, ((2, 996, ("tree", (2, 1, ()))),))))
        n, paper = GREAT_PAPERS[3]
        self.assertIsNone(self.both(n, ("whole parts", n, ((n, 1, paper),))))

    def test_the_first_breach(self):
        two, three = (2, 2, ("tried", 2)), (3, 1, ("tried", 3))
        for rows, wanted in (
            ((), 0), ((two,), 1), ((two, (3, 1, None)), 1), (((2, 2, None), (3, 1, None)), 0), ((three, two), -1), ((two, two), -1),
            ((two, (3, 2, ("tried", 3))), 2), ((two, three, (5, 1, ("tried", 5))), 3), ((two, three, (13, 1, ("tried", 13))), -1),
            (((2, 2, ("tried", 3)), (3, 0, ("tried", 3))), -1), (((2, 2, ()), (3, 1, ("tried", 3)), (12, 1, None)), 0),
            ((two, three, (12, 1, None)), 2), (((2, 1001, ("tried", 2)),), -1), (((2, 1000, ("tried", 2)),), 1), (((4, 1, ("tried", 4)), (3, 1, 0)), -1),
            (((12, 1, ("tried", 12)),), 0), (((1, 1, None), two, three), -1), ((two, (3, True, ("tried", 3))), -1), ([two, three], -1), ((two, list(three)), -1),
        ):
            self.assertEqual(self.both(12, ("whole parts", 12, rows)), wanted, rows)
        self.assertEqual(self.both(1, ("whole parts", 1, (two,))), -1)
        self.assertEqual(self.both(2, ("whole parts", 3, ((2, 1, ("tried", 2)),))), -1)
        self.assertEqual(self.both(12, ("whole", 12, (two, three))), -1)

    def test_any_value(self):
        for n in (1, 2, 12, 97, 10 ** 300):
            for value in ANY:
                self.both(n, value)
                self.both(n, ("whole parts", n, value))
                self.both(n, ("whole parts", value, ()))
                self.both(n, ("whole parts", n, ((2, 1, value),)))
                self.both(n, ("whole parts", n, ((value, 1, ("tried", 2)),)))
                self.both(n, ("whole parts", n, ((2, value, ("tried", 2)),)))

    def test_changed_papers(self):
        for n in (1, 2, 12, 49, 360, 2 * 99991, 30030):
            for value in changed(whole_parts(n)):
                self.both(n, value)
        n = 4 * GREAT_PAPERS[0][0] ** 2
        for value in list(changed(whole_parts(n)))[::7]:
            self.both(n, value)

    def test_great_exponents_and_many_rows_do_no_harm(self):
        n = 10 ** 300
        rows = tuple((p, 1000, ("tried", p)) for p in PRIMES[:3000])
        self.assertEqual(self.both(n, ("whole parts", n, rows)), 3000)
        n, paper = GREAT_PAPERS[3]
        self.assertEqual(self.both(n, ("whole parts", n, ((n, 1000, paper),))), 1)
        self.assertEqual(self.both(n, ("whole parts", n, ((2, 1000, ("tried", 2)), (n, 1000, paper)))), 2)


class WholeParts(unittest.TestCase):  # [5], [46], [47]
    def check(self, n, known=None, primes=()):
        if not told_by(n, primes):
            refused(self, TooHard, TOO_HARD, whole_parts, n, *(() if known is None else (known,)))
            return False
        value = whole_parts(n) if known is None else whole_parts(n, known)
        self.assertIsNone(whole(n, value), n)
        self.assertIsNone(whole_breach(n, value))
        return True

    def test_small_numbers(self):
        for n in range(1, 1000):
            self.assertTrue(self.check(n))
            self.assertEqual(tuple((p, e) for p, e, _ in whole_parts(n)[2]), factors(n))
        self.assertEqual(whole_parts(1), ("whole parts", 1, ()))

    def test_edges(self):
        counts = {True: 0, False: 0}
        for n in list(edges()) + list(range(10 ** 10 - 20, 10 ** 10 + 20)) + [2 ** 996, 10 ** 300, 3 ** 628, 99991 ** 60, BELOW ** 30]:
            counts[self.check(n)] += 1
        for n in (DECEIVER, 2 * DECEIVER) + SOFT_DECEIVERS[:3]:
            self.assertFalse(self.check(n))
        self.assertGreater(min(counts.values()), 5)

    def test_around_10_to_the_40_and_the_300(self):
        source = some(223)
        for n in [10 ** 40 - k for k in range(12)] + [10 ** 300 - k for k in range(4)]:
            self.check(n)
        for _ in range(15):
            self.check(source.randrange(1, 10 ** 40))
        self.check(math.prod(PRIMES[-60:]))
        self.check(math.prod(PRIMES[:120]))

    def test_great_primes(self):
        for p in list(towers()) + [SOFT, HARD, HARDER, 10 ** 40 - 17]:
            self.assertIs(self.check(p), soft(p - 1) or p < 10 ** 10)
            self.check(30 * p ** 2)
            self.check(p ** 5)
        self.assertIs(self.check(SOFT * ABOVE), False)
        self.assertIs(self.check(SOFT ** 14), True)

    def test_a_tall_tower(self):
        p = tower()[-1]
        self.assertEqual((pow(2, p - 1, p), len(str(p))), (1, 298))
        self.assertIsNone(whole_breach(p, whole_parts(p)))
        q = tower()[60]
        self.assertIsNone(whole(12 * q * q, whole_parts(12 * q * q)))

    def test_known(self):
        for n, enough, more in CASES:
            self.assertFalse(self.check(n))
            self.assertFalse(self.check(n, ()))
            self.assertFalse(self.check(n, tried(2, 7, R + 6)))
            for known in (enough, more):
                self.assertTrue(self.check(n, known, [q for q, _ in known]))
            self.assertTrue(self.check(n * 2 ** 40, enough, [q for q, _ in enough]))
        # A prime that is left need not be known, but what is left of its forerunner must be soft.
        self.assertFalse(self.check(HARD, KNOWN, (P, Q)))
        self.assertTrue(self.check(1, KNOWN, (P, Q)))
        self.assertTrue(self.check(12, KNOWN, (P, Q)))

    def test_known_to_10_to_the_300(self):
        (a, _), (b, one), (c, other) = GREAT_PAPERS[0], GREAT_PAPERS[1], GREAT_PAPERS[2]
        known = ((b, one), (c, other))
        self.assertTrue(self.check(a * b, ((b, one),), (b,)))
        self.assertTrue(self.check(b * c, known, (b, c)))
        self.assertTrue(self.check(b ** 3, known, (b, c)))
        refused(self, TooHard, TOO_HARD, whole_parts, b * c, ((c, other),))
        n, paper = GREAT_PAPERS[3]
        self.assertTrue(self.check(n, ((n, paper),), (n,)))
        refused(self, TooHard, TOO_HARD, whole_parts, n, known)

    def test_wrong_papers_come_first(self):
        for known, place in WRONG_KNOWN:
            for n in (1, 12, P * Q, 10 ** 300):
                refused(self, NotPaper, {"place": place}, whole_parts, n, known)
        for value in ANY:
            refused(self, NotPaper, {"place": 1}, whole_parts, P * Q, tried(2) + ((P, value),))
        for value in list(changed(HARD_PAPER))[::5]:
            if breach(HARD, value) is not None:
                refused(self, NotPaper, {"place": 0}, whole_parts, HARD, ((HARD, value),))


class Either(unittest.TestCase):  # [48]
    def check(self, n):
        rough = n >= 10 ** 10 and leftover(n) == ((), n)
        power = any(root(n, k) ** k == n for k in range(2, 140))
        if rough and not power and not (is_prime(n) and soft(n - 1)):
            refused(self, TooHard, TOO_HARD, either, n)
            return "hard"
        answer = either(n)
        if is_prime(n):
            self.assertEqual(answer[0], "prime")
            self.assertIsNone(breach(n, answer[1]))
            self.assertEqual(len(answer), 2)
        else:
            word, a, b = answer
            self.assertTrue(word == "parts" and 1 < a <= b and a * b == n, n)
        return answer[0]

    def test_small_numbers(self):
        for n in range(2, 2000):
            self.check(n)

    def test_edges(self):
        kinds = {}
        for n in list(edges()) + list(range(10 ** 10 - 30, 10 ** 10 + 30)) + list(towers()) + [10 ** 40 - k for k in range(20)]:
            if n > 1:
                kind = self.check(n)
                kinds[kind] = kinds.get(kind, 0) + 1
        self.assertGreater(min(kinds.values()), 3)
        self.assertEqual(len(kinds), 3)
        for n, wanted in (
            (99991 ** 2, "parts"), (P * P, "parts"), (P * Q, "hard"), (99991 * P, "parts"), (ABOVE, "prime"), (BELOW, "prime"),
            (HARD, "hard"), (HARD ** 2, "parts"), ((P * Q) ** 3, "parts"), (2 * P * Q, "parts"), (DECEIVER, "hard"), (SOFT, "prime"),
            (SOFT_DECEIVERS[0], "hard"), (P ** 8, "parts"), (P ** 7, "parts"), (2, "prime"), (4, "parts"), (99991, "prime"),
        ):
            self.assertEqual(self.check(n), wanted, n)
        self.assertEqual(either(4), ("parts", 2, 2))

    def test_some(self):
        source = some(227)
        for digits in (10, 11, 12, 20, 40):
            for _ in range(25):
                self.check(source.randrange(10 ** digits) | 1)
