import unittest

from numberpapers.answers import answer
from numberpapers.judging import judge
from numberpapers.primepapers import paper_by, told_prime
from numberpapers.sayings import opposite
from numberpapers.wholeparts import whole_parts
from tests.helpers import ANY, changed, some
from tests.judges import order
from tests.saidcases import great_claims, small_claims
from tests.sayingjudges import right
from tests.test_primepapers import GREAT_PAPERS

TWO, THREE = ("tried", 2), ("tried", 3)

# Sayings with papers of each sort, right or nearly so, that answer need not choose.
PAPERS = (
    (("is", ("prime", 2)), ("tree", (2, 1, ()))), (("is", ("prime", 17)), paper_by(17, ((2, TWO),))), (("is", ("prime", 7)), paper_by(7, ((2, TWO),))), (("not", ("prime", 1)), ("small",)), (("not", ("prime", 9)), ("divisor", 3)),
    (("not", ("prime", 9)), ("power", 2)), (("not", ("prime", 8)), ("root", 3)), (("not", ("prime", 9)), ("strong", 2)), (("not", ("prime", 7)), ("divisor", 7)),
    (("is", ("whole", 12, ((2, 2), (3, 1)))), (TWO, ("tree", (3, 2, ((2, 1, (2, 1, ())),))))), (("not", ("whole", 12, ((2, 2), (3, 2)))), ("product",)), (("not", ("whole", 16, ((4, 2),))), ("inner", 0, ("divisor", 2))), (("not", ("whole", 17, ((4, 2),))), ("inner", 0, ("divisor", 2))),
    (("not", ("whole", 17, ((4, 2),))), ("product",)), (("not", ("whole", 36, ((4, 1), (9, 1)))), ("inner", 1, ("divisor", 3))), (("not", ("whole", 36, ((4, 1), (9, 1)))), ("inner", 0, ("divisor", 2))), (("not", ("whole", 12, ((3, 1), (2, 2)))), ("row", 1)),
    (("not", ("whole", 12, ((3, 1), (4, 1), (1, 1)))), ("row", 2)), (("not", ("whole", 12, ((3, 1), (3, 0)))), ("row", 1)), (("not", ("whole", 12, ((3, 1), (2, 2)))), ("product",)), (("not", ("whole", 5, ((4, 1), (2, 2)))), ("inner", 0, ("divisor", 2))), (("not", ("whole", 12, ((1, 1),))), ("row", 0)),
    (("is", ("whole", 1, ())), ()), (("not", ("whole", 1, ())), ("product",)), (("not", ("whole", 2, ())), ("product",)), (("is", ("whole", 2, ())), ()), (("is", ("whole", 12, ((3, 1), (2, 2)))), (THREE, TWO)),
    (("is", ("common", 12, 18, 6)), (2, -1)), (("is", ("common", 12, 18, 6)), (-1, 1)), (("is", ("common", 12, 18, -6)), (1, -1)), (("is", ("common", 0, 0, 0)), (5, -77)), (("is", ("common", 12, 18, 30)), (1, 1)), (("not", ("common", 12, 18, -6)), ("sign",)),
    (("not", ("common", 12, 18, 3)), ("more", 6)), (("not", ("common", 12, 18, 3)), ("more", -2)), (("not", ("common", 12, 18, 3)), ("more", 3)), (("not", ("common", 12, 18, 4)), ("lacks",)), (("not", ("common", 0, 0, 5)), ("more", 0)), (("not", ("common", 0, 0, 5)), ("more", 10)),
    (("not", ("common", 0, 5, 0)), ("lacks",)), (("not", ("common", 0, 0, 0)), ("more", 7)), (("not", ("common", 4, 6, -2)), ("lacks",)), (("not", ("common", 4, 6, -3)), ("lacks",)), (("not", ("common", 12, 18, 6)), ("more", 0)),
    (("is", ("rests", ((1, 2), (2, 3)))), (5,)), (("is", ("rests", ((1, 2), (2, 3)))), (-1,)), (("is", ("rests", ((1, 2), (2, 3)))), (11,)), (("not", ("rests", ((1, 4), (2, 6)))), ("clash", 0, 1, -1, 1)), (("not", ("rests", ((1, 4), (2, 6)))), ("clash", 0, 1, 2, -1)),
    (("not", ("rests", ((1, 4), (3, 6)))), ("clash", 0, 1, -1, 1)), (("not", ("rests", ((1, 4), (2, 6)))), ("clash", 1, 0, 1, -1)), (("not", ("rests", ((1, 4), (2, 4)))), ("clash", 0, 1, 0, 1)), (("not", ("rests", ((1, 4), (2, 4)))), ("clash", 0, 0, 0, 1)), (("not", ("rests", ((1, 4), (2, 6)))), ("clash", 0, 1, 1, -1)),
    (("not", ("rests", ((1, 8), (3, 8)))), ("clash", 0, 1, 1, 0)), (("not", ("rests", ((1, 4), (2, 6)))), ("clash", 0, 2, -1, 1)), (("not", ("rests", ((1, 4), (2, 6)))), ("clash", -2, 1, -1, 1)), (("not", ("rests", ((1, 4), (2, 6)))), ("clash", 0, 1, 1, 0)),
    (("is", ("order", 2, 7, 3)), ((3, 1, THREE),)), (("is", ("order", 1, 7, 1)), ()), (("is", ("order", 6, 7, 2)), ((2, 1, TWO),)), (("is", ("order", 3, 7, 6)), ((2, 1, TWO), (3, 1, THREE))), (("is", ("order", 2, 7, 6)), ((2, 1, TWO), (3, 1, THREE))), (("is", ("order", 0, 2, 1)), ()),
    (("not", ("order", 2, 7, 4)), ("far",)), (("not", ("order", 2, 7, 6)), ("short", 2)), (("not", ("order", 2, 7, 12)), ("short", 4)), (("not", ("order", 2, 7, 12)), ("short", 3)), (("not", ("order", 2, 7, 3)), ("short", 3)), (("not", ("order", 1, 7, 6)), ("short", 6)), (("not", ("order", 0, 4, 1)), ("far",)),
    (("is", ("root", 3, 7)), (whole_parts(7), ((2, 1, TWO), (3, 1, THREE)))), (("is", ("root", 1, 2)), (whole_parts(2), ())), (("is", ("root", 2, 7)), (whole_parts(7), ((2, 1, TWO), (3, 1, THREE)))), (("not", ("root", 2, 7)), ("less", whole_parts(7), 2)), (("not", ("root", 1, 7)), ("less", whole_parts(7), 6)),
    (("not", ("root", 2, 7)), ("less", whole_parts(7), 3)), (("not", ("root", 0, 7)), ("common", 7)), (("not", ("root", 6, 9)), ("common", 3)), (("not", ("root", 6, 9)), ("common", -3)), (("not", ("root", 6, 8)), ("common", 1)), (("not", ("root", 3, 8)), ("less", whole_parts(8), 2)), (("not", ("root", 3, 8)), ("less", whole_parts(7), 2)),
    (("is", ("rooted", 7)), (3, (whole_parts(7), ((2, 1, TWO), (3, 1, THREE))))), (("is", ("rooted", 7)), (10, (whole_parts(7), ((2, 1, TWO), (3, 1, THREE))))), (("not", ("rooted", 15)), ("two", 3, 5, 2, -1)), (("not", ("rooted", 15)), ("two", 5, 3, -1, 2)), (("not", ("rooted", 24)), ("two", 3, 8, 3, -1)), (("not", ("rooted", 24)), ("eight",)),
    (("not", ("rooted", 12)), ("eight",)), (("not", ("rooted", 6)), ("two", 2, 3, -1, 1)), (("not", ("rooted", 15)), ("two", -3, -5, -2, 1)), (("not", ("rooted", 15)), ("two", 1, 15, 1, 0)), (("not", ("rooted", 9)), ("two", 3, 3, 1, 0)),
    (("is", ("power", 3, 2, 7)), (2,)), (("is", ("power", 3, 2, 7)), (8,)), (("is", ("power", 3, 2, 7)), (10 ** 40 + 4,)), (("is", ("power", 3, 2, 7)), (-4,)), (("not", ("power", 2, 3, 7)), ("bar", 7, 3, ((3, 1, THREE),))), (("not", ("power", 1, 3, 4)), ("four",)), (("not", ("power", 1, 3, 8)), ("four",)), (("not", ("power", 3, 5, 8)), ("four",)),
    (("not", ("power", 3, 5, 8)), ("two", 3, 1, 1, 0, 1, 1, 1)), (("not", ("power", 7, 5, 16)), ("two", 4, 1, 2, 0, 1, 1, 1)), (("not", ("power", 9, 5, 16)), ("bar", 16, 2, ((2, 1, TWO),))), (("not", ("power", 9, 5, 16)), ("bar", 8, 1, ())), (("not", ("power", 7, 1, 8)), ("bar", 1, 1, ())),
    (("not", ("power", 2, 3, 35)), ("clash", (5, 4, ((2, 2, TWO),), 3), (7, 3, ((3, 1, THREE),), 0))), (("not", ("power", 4, 11, 15)), ("bar", 3, 1, ())), (("not", ("power", 2, 8, 15)), ("clash", (3, 2, ((2, 1, TWO),), 1), (5, 4, ((2, 2, TWO),), 2))), (("not", ("power", 2, 13, 15)), ("clash", (3, 2, ((2, 1, TWO),), 0), (5, 4, ((2, 2, TWO),), 3))),
    (("not", ("power", 2, 13, 15)), ("clash", (3, 2, ((2, 1, TWO),), 10 ** 45), (5, 4, ((2, 2, TWO),), 10 ** 45 + 3))), (("not", ("power", 2, 13, 15)), ("clash", (3, 2, ((2, 1, TWO),), -2), (5, 4, ((2, 2, TWO),), 3))), (("not", ("power", 2, 4, 15)), ("clash", (3, 2, ((2, 1, TWO),), 0), (5, 4, ((2, 2, TWO),), 2))),
    (("is", ("square", 4, 15)), (2,)), (("is", ("square", 4, 15)), (7,)), (("is", ("square", 4, 15)), (17,)), (("not", ("square", 3, 9)), ("odd", 3, 2, 1, THREE)), (("not", ("square", 2, 15)), ("power", 3, 1, 0, THREE)), (("not", ("square", 3, 8)), ("eight", 3, 0)), (("not", ("square", 3, 8)), ("eight", 2, 0)), (("not", ("square", 3, 7)), ("sign", ((3, 7, 1), (7, 3, -1), (1, 3, -1)))),
    (("is", ("two squares", 25)), (3, 4)), (("is", ("two squares", 25)), (0, 5)), (("is", ("two squares", 25)), (4, 3)), (("is", ("two squares", 0)), (0, 0)), (("not", ("two squares", 27)), (3, 3, THREE)), (("not", ("two squares", 0)), (3, 1, THREE)), (("not", ("two squares", 9)), (3, 2, THREE)), (("not", ("two squares", 21)), (7, 1, ("tried", 7))),
    (("is", ("four squares", 7)), (1, 1, 1, 2)), (("is", ("four squares", 4)), (1, 1, 1, 1)), (("is", ("four squares", 4)), (0, 0, 0, 2)), (("is", ("four squares", 4)), (2, 0, 0, 0)), (("not", ("four squares", 7)), ()), (("not", ("four squares", 7)), (0, 0)),
    (("is", ("tells", (1, 0, 1), 5)), (1, 2)), (("is", ("tells", (1, 0, 1), 5)), (-2, 1)), (("is", ("tells", (1, 0, 1), 9)), (3, 0)), (("is", ("tells", (1, 0, 1), 1)), (0, -1)), (("not", ("tells", (1, 0, 1), 3)), ("no root", 3, THREE)), (("not", ("tells", (1, 0, 1), 5)), ("pair", 1, 2)), (("not", ("tells", (2, 2, 3), 1)), ("unlike", (), ((0, ((1, 0), (0, 1))),))),
    (("not", ("tells", (2, 2, 3), 1)), ("unlike", (), ((0, ((-1, 0), (0, -1))),))), (("is", ("minus one", 5)), (2, 1)), (("is", ("minus one", 5)), (-38, 17)), (("is", ("minus one", 2)), (1, 1)), (("not", ("minus one", 3)), ("rlr",)), (("not", ("minus one", 3)), ("rl",)), (("not", ("minus one", 2)), ("rllr",)), (("not", ("minus one", 3)), "rlr"),
    (("is", ("perfect", 6)), ("euclid", 2, THREE)), (("is", ("perfect", 28)), ("euclid", 3, ("tried", 7))), (("is", ("perfect", 28)), ("sum", whole_parts(28))), (("is", ("perfect", 28)), ("euclid", 2, THREE)), (("not", ("perfect", 12)), ("sum", whole_parts(12))), (("not", ("perfect", 6)), ("sum", whole_parts(6))), (("is", ("perfect", 120)), ("euclid", 4, ("tried", 15))), (("is", ("perfect", 1)), ("euclid", 1, ("tried", 1))),
    (("is", ("circle", 4, 2, 5)), (("tried", 5), ((2, 2, TWO),))), (("is", ("circle", 1, 3, 2)), (TWO, ())), (("is", ("circle", 4, -3, 5)), (("tried", 5), ((2, 2, TWO),))), (("not", ("circle", 4, 4, 5)), ("order", ("short", 2))), (("not", ("circle", 4, 2, 7)), ("order", ("far",))), (("not", ("circle", 6, 2, 3)), ("divides",)), (("not", ("circle", 6, 2, 5)), ("divides",)),
    (("not", ("circle", 6, 2, 9)), ("inner", ("divisor", 3))), (("is", ("circle", 6, 2, 9)), (("tried", 3), ((2, 1, TWO), (3, 1, THREE)))), (("is", ("circle", 2, 1, 2)), (TWO, ((2, 1, TWO),))), (("not", ("circle", 4, 5, 5)), ("order", ("far",))),
    (("is", ("common", 2, 3, 2)), (1, 0)), (("is", ("common", 3, 2, 2)), (0, 1)), (("is", ("common", 2, 3, -1)), (1, -1)), (("is", ("common", 2, 3, 1)), (-1, 1)), (("not", ("rooted", 6)), ("two", 3, 2, 1, -1)), (("is", ("rooted", 2)), (3, (whole_parts(2), ()))),
    (("is", ("rooted", 2)), (1, (whole_parts(2), ()))), (("is", ("power", 3, 3, 7)), (-1,)), (("is", ("power", 3, 3, 7)), (1,)), (("is", ("power", 1, 1, 7)), (10 ** 40,)), (("is", ("power", 1, 1, 7)), (10 ** 40 + 1,)), (("not", ("power", 25, 5, 32)), ("two", 5, 0, 2, 0, 1, 0, 4)),
    (("not", ("power", 25, 5, 32)), ("two", 5, 2, 2, 0, 1, 0, 4)), (("not", ("power", 25, 5, 32)), ("two", 5, 0, 2, 2, 1, 0, 4)), (("not", ("power", 5, 31, 32)), ("two", 5, 0, 1, 1, 0, 1, 0)), (("not", ("power", 5, 31, 32)), ("two", 5, 0, 1, 1, 8, 1, 0)), (("not", ("power", 31, 5, 32)), ("two", 5, 1, 0, 0, 1, 0, 1)),
    (("not", ("power", 31, 5, 32)), ("two", 5, 1, 8, 0, 1, 0, 1)), (("not", ("power", 57, 57, 65)), ("clash", (5, 4, ((2, 2, TWO),), 1), (13, 4, ((2, 2, TWO),), 1))), (("not", ("power", 57, 8, 65)), ("clash", (5, 4, ((2, 2, TWO),), 3), (13, 4, ((2, 2, TWO),), 3))),
    (("not", ("power", 57, 18, 65)), ("clash", (5, 4, ((2, 2, TWO),), 3), (13, 4, ((2, 2, TWO),), 1))),
    (("is", ("round", 2, 3)), ((3, 1, THREE),)), (("is", ("round", 1, 1)), ()), (("is", ("round", 2, 6)), ((2, 1, TWO), (3, 1, THREE))), (("not", ("round", 2, 6)), ("short", 2)), (("not", ("round", 2, 12)), ("short", 4)), (("not", ("round", 2, 4)), ("far",)), (("not", ("round", 2, 3)), ("short", 3)), (("not", ("round", 1, 5)), ("short", 5)),
)


class Judge(unittest.TestCase):  # [110], [111]
    def check(self, saying, paper):
        found = judge(saying, paper)
        self.assertIs(found, right(saying, paper), (saying, paper))
        return found

    def test_papers(self):
        counts = {}
        for saying, paper in PAPERS:
            key = (saying[0], saying[1][0], self.check(saying, paper))
            counts[key] = counts.get(key, 0) + 1
            self.check(opposite(saying), paper)
        kinds = {kind for _, kind, _ in counts}
        self.assertEqual(len(kinds), 16)
        for kind in kinds:
            for word in ("is", "not"):
                if kind != "four squares" or word == "is":
                    self.assertIn((word, kind, True), counts)

    def test_changed_papers(self):
        for saying, paper in PAPERS:
            for value in changed(paper):
                self.check(saying, value)
            for value in changed(saying):
                self.check(value, paper)

    def test_answers_and_changed_answers(self):
        for claim in small_claims()[::3]:
            saying, paper = answer(claim)
            self.assertIs(self.check(saying, paper), True)
            for value in changed(paper):
                self.check(saying, value)

    def test_papers_of_other_sayings(self):
        answers = [answer(claim) for claim in small_claims()]
        for saying, paper in answers[::2]:
            for other, _ in answers[::3]:
                self.check(other, paper)
                self.check(opposite(other), paper)

    def test_any_value(self):
        for saying, paper in PAPERS[::2]:
            for value in ANY:
                self.check(saying, value)
                self.check(value, paper)
                self.check((saying[0], value), paper)
                self.check((value, saying[1]), paper)
                for at in range(len(paper)):
                    if type(paper) is tuple:
                        self.check(saying, paper[:at] + (value,) + paper[at + 1:])
                for at in range(1, len(saying[1])):
                    self.check((saying[0], saying[1][:at] + (value,) + saying[1][at + 1:]), paper)
        for value in ANY:
            for other in ANY:
                self.assertIs(judge(value, other), False)

    def test_great_papers(self):
        for n, paper in GREAT_PAPERS[:6]:
            self.assertIs(judge(("is", ("prime", n)), paper), True)
            self.assertIs(judge(("not", ("prime", n)), paper), False)
            self.assertIs(judge(("is", ("prime", n + 2)), paper), False)
        self.assertIs(judge(("is", ("prime", 10 ** 300 + 1)), told_prime(7)[1]), False)

    def test_orders_by_steps(self):
        for n in range(2, 30):
            for a in range(n):
                for d in range(1, 13):
                    (word, _), paper = answer(("order", a, n, d))
                    is_unit = all(a % q or n % q for q in range(2, n + 1))
                    self.assertEqual(word == "is", is_unit and order(a, n) == d)


class EachClaim(unittest.TestCase):  # [111]
    def test_just_one_of_both_sayings_has_a_paper(self):
        source = some(743)
        claims = small_claims()
        answers = {}
        for claim in claims:
            answers.setdefault(claim[0], []).append(answer(claim))
        for claim in source.sample(claims, 150):
            saying, paper = answer(claim)
            self.assertIs(judge(saying, paper), True)
            for _, other in answers[claim[0]]:
                self.assertIs(judge(opposite(saying), other), False)

    def test_great_claims(self):
        for claim in great_claims()[::7]:
            try:
                saying, paper = answer(claim)
            except Exception as error:
                self.assertIn(type(error).__name__, ("TooHard", "TooMany"))
                continue
            self.assertIs(self.both(saying, paper), True)

    def both(self, saying, paper):
        found = judge(saying, paper)
        self.assertIs(found, right(saying, paper))
        self.assertIs(judge(opposite(saying), paper), False)
        return found
