import unittest

from numberpapers.errors import NotPaper, NotPrime, TooHard
from numberpapers.primepapers import is_prime_paper, paper_by, prime_breach, told_prime
from tests.helpers import ANY, changed, refused, some
from tests.primes import PRIMES, breach, is_prime, leftover, right_witness, told
from tests.test_soft import ABOVE, BELOW, P, Q, hard_prime, next_prime, soft_prime, towers
from tests.test_trees import DECEIVER, SOFT_DECEIVERS

TWO = ("tried", 2)
GREAT = 10 ** 39 + 3559


def tried(*primes):
    return tuple((q, ("tried", q)) for q in primes)


def parts(n):
    """The pairs (q, e) of a number whose leftover is 1 or a prime."""
    row, left = leftover(n)
    return row + (((left, 1),) if left > 1 else ())


def great_papers():
    """Primes to 10 ** 300 with papers of all sorts within one another."""
    found = [(GREAT, told_prime(GREAT)[1])]
    # n = k * q + sign is prime for these k, q being the prime ahead.
    for digits, sign, off in ((78, 1, -86), (155, -1, -42), (300, 1, -372)):
        q, paper = found[-1]
        n = (2 * (10 ** digits // q // 2) + off) * q + sign
        found.append((n, paper_by(n, ((2, TWO), (q, paper)))))
    q, paper = found[2]
    n = (2 * (10 ** 300 // q // 2) - 320) * q - 1
    return found + [(n, paper_by(n, ((2, TWO), (q, paper))))]


GREAT_PAPERS = great_papers()


class Breaches(unittest.TestCase):  # [36] to [38]
    def both(self, n, value):
        wanted = breach(n, value)
        self.assertEqual(prime_breach(n, value), wanted, (n, value))
        self.assertIs(is_prime_paper(n, value), wanted is None)
        return wanted

    def test_tried_papers(self):
        for n in list(range(0, 2000)) + [999983, 10 ** 6, 999 ** 2, 997 ** 2]:
            self.assertEqual(self.both(n, ("tried", n)), None if is_prime(n) else ())
            self.both(n, ("tried", n + 1))
        self.assertEqual(self.both(1000003, ("tried", 1000003)), ())

    def test_all_sorts_of_papers_of_one_number(self):
        two, three = (2, 1, ()), (3, 2, ((2, 1, (2, 1, ())),))
        for n, paper in (
            (7, ("tried", 7)),
            (7, ("tree", (7, 3, ((2, 1, two), (3, 1, three))))),
            (7, ("part", 7, ((3, 1, 2, ("tried", 3)),))),
            (7, ("part", 7, ((3, 1, 2, ("tree", three)),))),
            (7, ("lucas", 7, 1, 3, ((2, 3, TWO),))),
            (7, ("part", 7, ((2, 1, 3, ("tree", two)), (3, 1, 2, ("part", 3, ((2, 1, 2, TWO),)))))),
            (3, ("part", 3, ((2, 1, 2, TWO),))),
            (5, ("lucas", 5, 1, 2, ((2, 1, TWO), (3, 1, ("tried", 3))))),
            (5, ("part", 5, ((2, 2, 2, TWO),))),
        ):
            self.assertIsNone(self.both(n, paper))
            for value in changed(paper):
                self.both(n, value)
            for other in (0, 1, 2, 3, 5, 6, 8, 11, 49):
                self.both(other, paper)

    def test_wrong_part_papers(self):
        for paper in (
            ("part", 7, ((2, 1, 3, TWO),)),                            # 2 * 2 is not above 7
            ("part", 7, ((3, 1, 7, ("tried", 3)),)),                   # a is 7
            ("part", 7, ((3, 1, 9, ("tried", 3)),)),                   # a is 2 + 7
            ("part", 7, ((3, 1, 1, ("tried", 3)),)),                   # a is 1
            ("part", 7, ((3, 1, 6, ("tried", 3)),)),                   # 6 * 6 less 1 is 0
            ("part", 7, ((3, 2, 2, ("tried", 3)),)),                   # 9 does not divide 6
            ("part", 7, ((6, 1, 3, ("tried", 6)),)),                   # 6 is not prime
            ("part", 7, ((3, 1, 2, ("tried", 3)), (2, 1, 3, TWO))),    # not ascending
            ("part", 7, ((3, 1, 2, ("tried", 3)), (3, 1, 2, ("tried", 3)))),
        ):
            self.assertIsNotNone(self.both(7, paper))
        self.assertEqual(self.both(7, ("part", 7, ((6, 1, 3, ("tried", 6)),))), (0,))
        # 4 is not the full power of 2 in 40.
        self.assertEqual(self.both(41, ("part", 41, ((2, 2, 3, TWO), (5, 1, 2, ("tried", 5))))), ())
        self.assertEqual(self.both(41, ("part", 41, ((2, 3, 3, TWO), (5, 1, 2, ("tried", 5))))), None)
        # 9 and 15 are not prime, whatever is told of them.
        for n in (9, 15, 21, 25, 91, 561):
            for a in range(2, n):
                self.assertIsNotNone(self.both(n, ("part", n, tuple((q, e, a, ("tried", q)) for q, e in self.powers(n - 1)))))
        self.assertEqual(self.both(8, ("part", 8, ((7, 1, 2, ("tried", 7)),))), ())
        self.assertEqual(self.both(2, ("part", 2, ())), ())

    def powers(self, n):
        found = []
        for q in PRIMES[:20]:
            e = 0
            while n % q ** (e + 1) == 0:
                e += 1
            if e:
                found.append((q, e))
        return found

    def test_lucas_papers_of_small_numbers(self):
        for n in (5, 7, 9, 11, 13, 15, 17, 23, 35, 47):
            rows = tuple((q, e, ("tried", q)) for q, e in self.powers(n + 1))
            right = [(p, q) for p in range(n) for q in range(n) if self.both(n, ("lucas", n, p, q, rows)) is None]
            self.assertEqual(bool(right), is_prime(n), n)
            for p, q in right[:3]:
                self.assertEqual(self.both(n, ("lucas", n, p + n, q, rows)), ())
                self.assertEqual(self.both(n, ("lucas", n, p, q + n, rows)), ())
                self.assertEqual(self.both(n, ("lucas", n, p - n, q, rows)), ())
        # Without the row of 2, Q may be 1.
        for n in (13, 17, 53):
            rows = tuple((q, e, ("tried", q)) for q, e in self.powers(n + 1) if q > 2)
            right = [(p, q) for p in range(n + 3) for q in range(n + 3) if self.both(n, ("lucas", n, p, q, rows)) is None]
            self.assertIn(1, [q for _, q in right])
            self.assertIn(n - 1, [p for p, _ in right])
            self.assertLess(max([p for p, _ in right] + [q for _, q in right]), n)
        self.assertEqual(self.both(3, ("lucas", 3, 1, 2, ((2, 2, TWO),))), ())
        # (F - 1) ** 2 has to be above n, F ** 2 is not enough: 5 * 5 is above 19, 4 * 4 is not.
        right = [(p, q) for p in range(19) for q in range(19) if self.both(19, ("lucas", 19, p, q, ((5, 1, ("tried", 5)),))) is None]
        self.assertEqual(right, [])

    def test_the_first_place_is_told(self):
        bad = ("tried", 4)
        two, three = (2, 1, ()), (3, 2, ((2, 1, (2, 1, ())),))
        rows = ((2, 1, 3, ("tree", (2, 2, ()))), (3, 1, 2, bad))
        self.assertEqual(self.both(7, ("part", 7, rows)), (0,))
        self.assertEqual(self.both(7, ("part", 7, (rows[0][:3] + (TWO,), rows[1]))), (1,))
        self.assertEqual(self.both(7, ("tree", (7, 3, ((2, 1, two), (3, 1, (3, 2, ((2, 1, (2, 2, ())),))))))), (1, 0))
        self.assertEqual(self.both(7, ("tree", (7, 3, ((2, 1, two), (3, 1, (3, 1, ((2, 1, (2, 2, ())),))))))), (1,))
        self.assertEqual(self.both(7, ("tree", (7, 2, ((2, 1, None), (3, 1, None))))), ())
        # In ("part", n, rows) the tree of row 1's paper ("tree", tree) has its own row 2 at (1, 2).
        p = 43
        tree = (43, 3, ((2, 1, two), (3, 1, three), (7, 1, (7, 3, ((2, 1, two), (3, 1, (3, 1, ())))))))
        n = next(k * p + 1 for k in range(6, 2000, 12) if is_prime(k * p + 1) and k % 4 == 2 and k < 40)
        right = paper_by(n, ((2, TWO), (43, ("tree", tree[:2] + (tree[2][:2] + ((7, 1, (7, 3, ((2, 1, two), (3, 1, three)))),),)))))
        place = len(right[2]) - 1
        wrong = right[:2] + (right[2][:place] + (right[2][place][:3] + (("tree", tree),),),)
        self.assertEqual(self.both(n, wrong), (place, 2, 1))

    def test_trees_take_trees_alone(self):
        self.assertEqual(self.both(3, ("tree", (3, 2, ((2, 1, TWO),)))), (0,))
        self.assertEqual(self.both(3, ("tree", (3, 2, ((2, 1, ("tree", (2, 1, ()))),)))), (0,))
        self.assertEqual(self.both(3, (3, 2, ((2, 1, (2, 1, ())),))), ())

    def test_any_value(self):
        for n in (0, 1, 2, 7, 561, 10 ** 300):
            for value in ANY:
                self.both(n, value)

    def test_great_papers(self):
        words = [paper[0] for _, paper in GREAT_PAPERS]
        self.assertEqual(words, ["tree", "part", "lucas", "part", "lucas"])
        for n, paper in GREAT_PAPERS:
            self.assertIsNone(self.both(n, paper))
            self.assertEqual(self.both(n + 2, paper), ())
        self.assertGreater(GREAT_PAPERS[3][0], 10 ** 299)

    def test_changed_great_papers(self):
        for (n, paper), step in zip(GREAT_PAPERS[:3], (17, 31, 101)):
            for value in list(changed(paper))[::step]:
                self.both(n, value)

    def test_great_exponents_do_no_harm(self):
        n = GREAT_PAPERS[3][0]
        for q in (2, 10 ** 400, 3):
            self.both(n, ("part", n, ((q, 1000, 2, TWO),)))
            self.both(n, ("lucas", n, 1, 2, ((q, 1000, TWO),)))
            self.both(n, ("tree", (n, 2, ((q, 1000, (2, 1, ())),))))


class Told(unittest.TestCase):  # [39]
    def check(self, n):
        kind = told(n)
        if kind == "hard":
            refused(self, TooHard, {"limit": 10 ** 5}, told_prime, n)
            return kind
        word, paper = told_prime(n)
        self.assertEqual(word, kind, n)
        if kind == "prime":
            self.assertIsNone(breach(n, paper))
        else:
            self.assertTrue(right_witness(n, paper))
        return kind

    def test_small_numbers(self):
        for n in range(0, 1500):
            self.check(n)

    def test_edges(self):
        for n in list(range(10 ** 5 - 20, 10 ** 5 + 50)) + list(range(10 ** 6 - 20, 10 ** 6 + 20)):
            self.check(n)
        for n in list(range(10 ** 10 - 40, 10 ** 10 + 40)) + [99991 ** 2, 99991 * P, P * P, P * Q, BELOW, ABOVE]:
            self.check(n)
        for n in (BELOW * ABOVE, ABOVE ** 2, ABOVE ** 4, 10 ** 40, 10 ** 40 - 17, 10 ** 40 - 1, DECEIVER, 2 ** 127 - 1):
            self.check(n)

    def test_soft_and_hard_primes(self):
        kinds = [self.check(p) for p in list(towers()) + [hard_prime(), soft_prime(11), soft_prime(30), GREAT]]
        self.assertEqual(set(kinds), {"prime", "hard"})
        for digits in (10, 11, 12, 14, 18, 25):
            p = 10 ** digits
            for _ in range(6):
                p = next_prime(p)
                self.check(p)

    def test_some(self):
        source = some(179)
        for digits in (10, 12, 20, 40):
            for _ in range(25):
                self.check(source.randrange(10 ** digits) | 1)

    def test_deceivers(self):
        refused(self, TooHard, {"limit": 10 ** 5}, told_prime, DECEIVER)
        for n in SOFT_DECEIVERS:
            self.assertEqual(self.check(n), "witness")


class PaperBy(unittest.TestCase):  # [41]
    def product(self, n, primes):
        found = 1
        for q, _ in primes:
            while n % (found * q) == 0:
                found *= q
        return found

    def check(self, n, primes):
        below, above = self.product(n - 1, primes), self.product(n + 1, primes)
        part, lucas = below ** 2 > n, (above - 1) ** 2 > n
        if not part and not lucas:
            self.assertIsNone(paper_by(n, primes))
            return "none"
        if not is_prime(n):
            refused(self, NotPrime, {}, paper_by, n, primes)
            return "not prime"
        paper = paper_by(n, primes)
        self.assertEqual(paper[0], "part" if part else "lucas")
        self.assertIsNone(breach(n, paper))
        for one in paper[-1]:
            self.assertIn((one[0], one[-1]), primes)
        return paper[0]

    def test_small_numbers(self):
        seen = set()
        for n in range(5, 700, 2):
            for size in range(0, 7):
                seen.add(self.check(n, tried(*PRIMES[:size])))
            seen.add(self.check(n, tried(*[q for q in (3, 5, 7, 11, 13, 17, 101) if q != n])))
        self.assertEqual(seen, {"none", "not prime", "part", "lucas"})

    def test_all_primes_told(self):
        primes = tried(*PRIMES[:168])
        for n in range(5, 1000, 2):
            self.check(n, primes)
        # Carmichael numbers and others that deceive small bases.
        for n in (561, 1105, 1729, 2047, 2465, 6601, 8911, 25326001, 3215031751, 252601):
            self.assertEqual(self.check(n, primes), "not prime")
        for n in SOFT_DECEIVERS:
            great = tuple((q, told_prime(q)[1]) for q, _ in parts(n - 1) if q > 1000)
            self.assertEqual(self.check(n, primes + great), "not prime")

    def test_great_numbers(self):
        for (q, paper), (n, _) in zip(GREAT_PAPERS[:3], GREAT_PAPERS[1:4]):
            self.assertIn(self.check(n, ((q, paper),)), ("part", "lucas"))
            self.assertEqual(self.check(n, ((2, TWO),)), "none")
            other = next(k * q + 1 for k in range(2, 100, 2) if not is_prime(k * q + 1))
            self.assertEqual(self.check(other, ((q, paper),)), "not prime")
        q, paper = GREAT_PAPERS[2]
        self.assertEqual(self.check(GREAT_PAPERS[4][0], ((2, TWO), (q, paper))), "lucas")
        self.assertEqual(self.check(2 ** 521 - 1, ((2, TWO),)), "lucas")
        self.assertEqual(self.check(2 ** 523 - 1, ((2, TWO),)), "not prime")
        self.assertEqual(self.check(3 * 2 ** 534 + 1, ((2, TWO),)), "part")
        self.assertEqual(self.check(2 ** 512 + 1, ((2, TWO),)), "not prime")

    def test_papers_of_all_sorts(self):
        three = ("part", 3, ((2, 1, 2, ("tree", (2, 1, ()))),))
        self.assertEqual(self.check(2 * 3 ** 4 + 1, ((3, three),)), "part")
        self.assertEqual(self.check(2 * 3 ** 3 - 1, ((3, three),)), "lucas")
        seven = ("lucas", 7, 1, 3, ((2, 3, TWO),))
        self.assertEqual(self.check(29, ((7, seven),)), "part")

    def test_wrong_papers_come_first(self):
        right = tried(2, 3, 5, 7)
        for place in range(4):
            for bad in (None, ("tried", 11), (), ("tree", (2, 1)), [right[place][1]], right[place][1] + (1,), True):
                primes = right[:place] + ((right[place][0], bad),) + tried(8)
                refused(self, NotPaper, {"place": place}, paper_by, 9, primes)
        refused(self, NotPaper, {"place": 0}, paper_by, 25, ((0, ("tried", 0)), (2, TWO)))
        refused(self, NotPaper, {"place": 1}, paper_by, 25, ((2, TWO), (4, ("tried", 4))))
        refused(self, NotPaper, {"place": 0}, paper_by, 5, ((1, ("tried", 1)),))
        refused(self, NotPaper, {"place": 1}, paper_by, 10 ** 300 - 1, ((2, TWO), (10 ** 300, ("tried", 2))))
        for value in ANY:
            refused(self, NotPaper, {"place": 1}, paper_by, 13, ((2, TWO), (3, value)))

    def test_none_comes_ahead_of_not_prime(self):
        self.assertIsNone(paper_by(9, ()))
        self.assertIsNone(paper_by(21, tried(3)))
        self.assertIsNone(paper_by(5, ()))
        refused(self, NotPrime, {}, paper_by, 9, tried(2))
        refused(self, NotPrime, {}, paper_by, 15, tried(2))

    def test_the_numbers_told_are_left_alone(self):
        primes = tried(2, 3, 5)
        self.assertEqual(paper_by(31, primes), paper_by(31, primes))
        self.assertEqual(primes, tried(2, 3, 5))
