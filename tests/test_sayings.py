import unittest

from numberpapers.sayings import KINDS, claim_breach, opposite, saying_breach, size_of
from tests.helpers import ANY, STRANGE, changed, deep, wide
from tests.saidcases import great_claims, small_claims
from tests.sayingjudges import ENTRIES, GREAT, HUGE, claim_wrong, saying_wrong

ROW = ((2, 1),) * 40


class Claims(unittest.TestCase):  # [109]
    def check(self, value, wanted="any"):
        found = claim_breach(value)
        self.assertEqual(found, claim_wrong(value), value)
        if found is not None:
            self.assertEqual((type(found), type(found[0]), type(found[1])), (tuple, str, int))
        if wanted != "any":
            self.assertEqual(found, wanted, value)
        for word in ("is", "not"):
            self.assertEqual(saying_breach((word, value)), found)
        return found

    def test_kinds(self):
        self.assertEqual(KINDS, (
            "prime", "whole", "common", "rests", "order", "root", "rooted", "power", "square", "two squares", "four squares", "tells", "minus one", "perfect", "circle", "round",
        ))
        self.assertEqual(set(KINDS), set(ENTRIES))

    def test_claims(self):
        for claim in small_claims() + great_claims():
            self.check(claim, None)

    def test_ends_of_the_ranges(self):
        for claim, wanted in (
            (("prime", 0), None), (("prime", -1), 1), (("prime", HUGE), None), (("prime", HUGE + 1), 1), (("whole", 1, ()), None), (("whole", 0, ()), 1), (("whole", HUGE, ((HUGE, 1000),)), None),
            (("whole", HUGE + 1, ()), 1), (("whole", 5, ((-HUGE, -1000),)), None), (("whole", 5, ((HUGE + 1, 1),)), 2), (("whole", 5, ((-HUGE - 1, 1),)), 2), (("whole", 5, ((2, 1001),)), 2), (("whole", 5, ((2, -1001),)), 2),
            (("whole", 5, ((2, 1),) * 1000), None), (("whole", 5, ((2, 1),) * 1001), 2), (("whole", 5, [(2, 1)]), 2), (("whole", 5, ((2, 1, 1),)), 2), (("whole", 5, ((2, True),)), 2), (("whole", 0, None), 1),
            (("common", HUGE, -HUGE, 0), None), (("common", HUGE + 1, 0, 0), 1), (("common", 0, -HUGE - 1, 0), 2), (("common", 0, 0, HUGE + 1), 3), (("common", 0, True, 0), 2), (("common", None, None, None), 1),
            (("rests", ((0, 1),)), None), (("rests", ()), 1), (("rests", ((0, GREAT),) * 40), None), (("rests", ((0, GREAT),) * 41), 1), (("rests", ((0, GREAT + 1),)), 1), (("rests", ((1, 1),)), 1), (("rests", ((-1, 1),)), 1),
            (("rests", ((GREAT - 1, GREAT),)), None), (("rests", ((0, 0),)), 1), (("order", 0, 2, 1), None), (("order", 1, 2, GREAT), None), (("order", 2, 2, 1), 2), (("order", -1, 2, 1), 1), (("order", 0, 1, 1), 2),
            (("order", GREAT - 1, GREAT, 1), None), (("order", GREAT, GREAT, 1), 2), (("order", GREAT, GREAT + 1, 1), 2), (("order", 0, 2, 0), 3), (("order", 0, 2, GREAT + 1), 3), (("order", 10 ** 400, 7, 0), 2), (("order", None, None, None), 1),
            (("order", 3, None, None), 2), (("root", 0, 2), None), (("root", 1, 1), 2), (("root", -1, 5), 1), (("root", 5, 5), 2), (("root", GREAT - 1, GREAT), None), (("root", 0, GREAT + 1), 2), (("rooted", 2), None), (("rooted", 1), 1),
            (("rooted", GREAT), None), (("rooted", GREAT + 1), 1), (("power", 1, 1, 2), None), (("power", 0, 1, 2), 3), (("power", 1, 0, 2), 3), (("power", 3, 5, 4), 3), (("power", 5, 3, 4), 3), (("power", -1, 3, 4), 1), (("power", 1, -1, 4), 2),
            (("power", 1, 3, 1), 3), (("power", 0, 0, 1), 3), (("power", GREAT - 1, 1, GREAT), None), (("power", 1, GREAT + 1, GREAT), 3), (("power", 1, 1, GREAT + 1), 3), (("power", 2, 4, 9), None), (("power", 3, 2, 9), 3), (("power", None, None, 9), 1), (("power", 1, None, 9), 2),
            (("square", 0, 1), None), (("square", 1, 1), 2), (("square", -1, 1), 1), (("square", 0, 0), 2), (("square", 0, GREAT), None), (("square", 0, GREAT + 1), 2), (("square", GREAT - 1, GREAT), None), (("two squares", 0), None),
            (("two squares", -1), 1), (("two squares", GREAT), None), (("two squares", GREAT + 1), 1), (("four squares", 0), None), (("four squares", -1), 1), (("four squares", GREAT), None), (("four squares", GREAT + 1), 1),
            (("tells", (1, 0, 1), 1), None), (("tells", (1, 0, 1), 2), 2), (("tells", (1, 0, -1), 1), 1), (("tells", [1, 0, 1], 1), 1), (("tells", (1, 0, 1), GREAT - 1), None), (("tells", (1, 0, 1), GREAT), 2), (("tells", (1, 0, 1), GREAT + 1), 2),
            (("tells", (1, 1, 1), 3), 2), (("tells", (1, 1, 1), 0), 2), (("tells", (1, 1, 1), None), 2), (("tells", (GREAT // 4, 1, 1), 7), None), (("tells", (GREAT, 0, 1), 7), 1), (("tells", None, None), 1), (("minus one", 2), None), (("minus one", 1), 1),
            (("minus one", 4), 1), (("minus one", 10 ** 12), 1), (("minus one", 10 ** 12 - 1), None), (("minus one", 10 ** 12 + 1), 1), (("minus one", 0), 1), (("minus one", -5), 1), (("perfect", 1), None), (("perfect", 0), 1), (("perfect", GREAT), None),
            (("perfect", GREAT + 1), 1), (("circle", 1, 0, 2), None), (("circle", 0, 0, 2), 1), (("circle", 300, -1000, GREAT), None), (("circle", 301, 0, 2), 1), (("circle", 300, 1001, 2), 2), (("circle", 300, -1001, 2), 2), (("circle", 300, 1000, 1), 3),
            (("circle", 1, 0, GREAT + 1), 3), (("round", 1, 1), None), (("round", 0, 1), 1), (("round", 1, 0), 2), (("round", GREAT, GREAT), None), (("round", GREAT + 1, GREAT), 1), (("round", GREAT, GREAT + 1), 2), (("round", None, None), 1),
        ):
            self.check(claim, None if wanted is None else ("entry", wanted))

    def test_form_kind_and_number(self):
        for value, wanted in (
            ((), ("form", -1)), (None, ("form", -1)), (["prime", 2], ("form", -1)), ((1,), ("form", -1)), ((None, 2), ("form", -1)), ((b"prime", 2), ("form", -1)), ((("prime",), 2), ("form", -1)), ("prime", ("form", -1)),
            (("primes", 2), ("kind", 0)), (("",), ("kind", 0)), (("Prime", 2), ("kind", 0)), (("is", 2), ("kind", 0)), (("two", 2), ("kind", 0)), (("prime",), ("many", -1)), (("prime", 2, 3), ("many", -1)), (("prime", 2, ()), ("many", -1)),
            (("power", 1, 1), ("many", -1)), (("round", 1, 1, 1), ("many", -1)), (("rooted",), ("many", -1)), (("tells", (1, 0, 1)), ("many", -1)), (("order", 1, 2), ("many", -1)),
        ):
            self.check(value, wanted)
        for kind in KINDS:
            sizes = [size for size in range(1, 9) if claim_breach((kind,) + (None,) * (size - 1)) != ("many", -1)]
            self.assertEqual(sizes, [len(ENTRIES[kind]) + 1])

    def test_any_value(self):
        for value in ANY + (deep(190), wide(9000)):
            self.check(value)
            for kind in KINDS:
                for size in (1, 2, 3):
                    self.check((kind,) + (value,) * size)
            for word in ("is", "not"):
                self.assertEqual(saying_breach((word, value)), saying_wrong((word, value)))
            self.assertEqual(saying_breach(value), saying_wrong(value))
            self.assertEqual(saying_breach((value, ("prime", 2))), ("form", -1))
        for claim in small_claims()[::3] + great_claims()[::9]:
            for value in changed(claim):
                self.check(value)
            for inner in STRANGE:
                for at in range(len(claim)):
                    self.check(claim[:at] + (inner,) + claim[at + 1:])

    def test_sayings(self):
        for value, wanted in (
            (("is", ("prime", 2)), None), (("not", ("prime", 2)), None), (("isnt", ("prime", 2)), ("form", -1)), (["is", ("prime", 2)], ("form", -1)), (("is",), ("form", -1)), (("is", ("prime", 2), 1), ("form", -1)), (("is", ["prime", 2]), ("form", -1)),
            (("not", ("prim", 2)), ("kind", 0)), (("not", ("prime", -2)), ("entry", 1)), (("IS", ("prime", 2)), ("form", -1)), ((True, ("prime", 2)), ("form", -1)), ((), ("form", -1)), (("is", ()), ("form", -1)), (("is", ("prime",)), ("many", -1)),
        ):
            self.assertEqual(saying_breach(value), wanted)
            self.assertEqual(saying_wrong(value), wanted)

    def test_opposite(self):
        for claim in small_claims()[::5]:
            self.assertEqual(opposite(("is", claim)), ("not", claim))
            self.assertEqual(opposite(("not", claim)), ("is", claim))

    def test_sizes(self):
        for value, size in (
            ((), 0), (5, 1), ("x", 1), (("x", 1), 2), (("tried", 7), 2), (("tree", (2, 1, ())), 3), (((), ((), (1,))), 1), (("a", "a", ("a", 7, 7)), 5), ((("part", 3, ((2, 1, 2, ("tried", 2)),)),), 7), (0, 1), ("", 1), (("", 0, -5), 3),
            (deep(190), 0), ((1,) * 9000, 9000),
        ):
            self.assertEqual(size_of(value), size)
