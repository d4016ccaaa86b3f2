import unittest

from numberpapers.answers import answer
from numberpapers.errors import NotClaim, NotPaper, NotSheet, TooHard, TooMany
from numberpapers.sheets import answered, check_sheet, sheet_breach
from tests.helpers import ANY, changed, refused, some, wide
from tests.judges import KNOWN, P, Q, TOO_HARD, WRONG_KNOWN, tried
from tests.saidcases import small_claims
from tests.sayingjudges import right
from tests.test_judging import PAPERS


def wrong(value):
    """What sheet_breach returns, by the words of [113]."""
    if type(value) is not tuple:
        return -1
    for place, pair in enumerate(value):
        if type(pair) is not tuple or len(pair) != 2 or not right(*pair):
            return place
    return None


class Sheets(unittest.TestCase):  # [113]
    def check(self, value):
        found, wanted = sheet_breach(value), wrong(value)
        self.assertEqual(found, wanted, value)
        self.assertIs(type(found), type(wanted))
        if wanted is None:
            self.assertIs(check_sheet(value), value)
        else:
            refused(self, NotSheet, {"place": wanted}, check_sheet, value)
        return found

    def test_answered(self):
        claims = tuple(small_claims()[::4])
        sheet = answered(claims)
        self.assertEqual(sheet, tuple(answer(claim) for claim in claims))
        self.assertIsNone(self.check(sheet))
        self.assertEqual(answered(()), ())
        self.assertIsNone(self.check(()))
        claims = (("square", 4, P * Q), ("prime", P), ("order", 1, 7, P * Q))
        self.assertEqual(answered(claims, tried(P)), tuple(answer(claim, tried(P)) for claim in claims))
        self.assertIsNone(self.check(answered(claims, KNOWN)))

    def test_the_first_error(self):
        hard, many, wrong_claim, fine = ("perfect", P * Q), ("minus one", 10 ** 12 - 1), ("primes", 5), ("prime", 5)
        refused(self, TooHard, TOO_HARD, answered, (fine, hard, many, wrong_claim))
        refused(self, TooMany, {"limit": 5000}, answered, (many, hard, wrong_claim))
        refused(self, NotClaim, {"rule": "kind", "place": 0}, answered, (fine, wrong_claim, hard))
        refused(self, TooMany, {"limit": 5000}, answered, (hard, many), KNOWN)
        for value in ANY:
            if type(value) is not tuple or not value or value[0] != "prime":
                refused(self, NotClaim, {"rule": "form" if type(value) is not tuple or not value or type(value[0]) is not str else "kind", "place": -1 if type(value) is not tuple or not value or type(value[0]) is not str else 0}, answered, (fine, value))
        for known, place in WRONG_KNOWN:
            for claims in ((), (fine,), (wrong_claim,), (hard,)):
                refused(self, NotPaper, {"place": place}, answered, claims, known)

    def test_breaches(self):
        papers = [pair for pair in PAPERS if right(*pair)]
        bad = [pair for pair in PAPERS if not right(*pair)]
        self.assertIsNone(self.check(tuple(papers)))
        source = some(757)
        for _ in range(60):
            value = tuple(source.choice(papers) if source.random() < .9 else source.choice(bad) for _ in range(source.randrange(12)))
            self.check(value)
        self.assertEqual(self.check((papers[0], bad[0], bad[1])), 1)
        self.assertEqual(self.check((papers[0] + (1,),)), 0)

    def test_any_value(self):
        for value in ANY + (wide(5000),):
            self.check(value)
            self.check((value,))
            self.check((PAPERS[0], value))
            self.check((value, PAPERS[0]))
            self.check((PAPERS[0][:1] + (value,),))
        sheet = answered((("prime", 7), ("rooted", 15), ("two squares", 3), ("tells", (2, 2, 3), 1), ("rests", ((1, 2), (0, 4)))))
        for value in changed(sheet):
            self.check(value)
