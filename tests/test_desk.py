import copy
import unittest

from numberpapers.answers import answer
from numberpapers.desk import Desk
from numberpapers.errors import (
    NotClaim, NotDeed, NotDone, NotInStore, NotPaper, NotStore, NotUndone, TooHard, TooMany,
)
from numberpapers.primepapers import paper_by, told_prime
from numberpapers.stores import joined, opened, pruned, store_of
from tests.hard import HARD, HARD_PAPER
from tests.helpers import ANY, changed, refused, some
from tests.judges import KNOWN, P, Q, TOO_HARD, tried
from tests.saidcases import small_claims
from tests.sayingjudges import claim_wrong, right
from tests.test_judging import PAPERS
from tests.test_sheets import wrong as sheet_wrong
from tests.test_stores import SOME, THREE, TWO, wrong

FINE = [pair for pair in PAPERS if right(*pair)]
BAD = [pair for pair in PAPERS if not right(*pair)]


def state(desk):
    return (desk.store, desk.sheet, desk.deeds)


class Model:
    """A desk by the words of [117]: all states are kept."""

    def __init__(self, store, most):
        self.states, self.done, self.back, self.most = [(store, ())], [], [], most

    def now(self):
        return self.states[-1] + (tuple(self.done),)

    def do(self, deed):
        (store, sheet), word = self.states[-1], deed[0]
        if len(self.done) >= self.most:
            return TooMany
        if word == "ask":
            sheet += (answer(deed[1], tuple((p, opened(store, p)) for p, _ in store)),)
        elif word == "lay":
            sheet += (deed[1:],)
        elif word == "forget":
            sheet = sheet[:deed[1]] + sheet[deed[1] + 1:]
        elif word == "add":
            store = joined(store, store_of((deed[1:],)))
        else:
            store = pruned(store, deed[1])
        self.states.append((store, sheet))
        self.done.append(deed)
        self.back = []
        return None

    def undo(self):
        self.back.append((self.done.pop(), self.states.pop()))
        return self.back[-1][0]

    def again(self):
        deed, now = self.back.pop()
        self.done.append(deed)
        self.states.append(now)
        return deed


class Desks(unittest.TestCase):  # [117]
    def refused(self, desk, wanted, told, deed):
        before = state(desk)
        refused(self, wanted, told, desk.do, deed)
        self.assertEqual(state(desk), before)

    def test_at_first(self):
        desk = Desk()
        self.assertEqual(state(desk), ((), (), ()))
        store = store_of(tuple(SOME[:5]))
        self.assertEqual(state(Desk(store)), (store, (), ()))
        self.assertEqual(state(Desk(store=store, most=1)), (store, (), ()))
        self.assertRaises(TypeError, Desk, (), 50)
        for value in ANY + ((TWO, TWO), (THREE,), ((4, ("tried", 4)),)):
            found = wrong(value)
            if found is None:
                self.assertEqual(Desk(value).store, value)
            else:
                refused(self, NotStore, {"rule": found[0], "place": found[1]}, Desk, value)
                refused(self, NotStore, {"rule": found[0], "place": found[1]}, Desk, store=value, most=3)

    def test_ask(self):
        desk = Desk()
        claims = small_claims()[::11][:40]
        for claim in claims:
            self.assertIsNone(desk.do(("ask", claim)))
        self.assertEqual(desk.sheet, tuple(answer(claim) for claim in claims))
        self.assertEqual(desk.deeds, tuple(("ask", claim) for claim in claims))
        self.assertIsNone(sheet_wrong(desk.sheet))
        for value in ANY:
            found = claim_wrong(value)
            self.refused(desk, NotClaim, {"rule": found[0], "place": found[1]}, ("ask", value))

    def test_ask_with_a_store(self):
        hard = ("perfect", P * Q)
        desk = Desk()
        self.refused(desk, TooHard, TOO_HARD, ("ask", hard))
        desk.do(("add", P, ("tried", P)))
        desk.do(("ask", hard))
        self.assertEqual(desk.sheet, (answer(hard, tried(P)),))
        self.refused(desk, TooHard, TOO_HARD, ("ask", ("prime", 2 ** 127 - 1)))
        desk.do(("ask", ("prime", HARD)))
        desk.do(("add", HARD, HARD_PAPER))
        desk.do(("ask", ("prime", HARD)))
        known = tuple((p, opened(desk.store, p)) for p, _ in desk.store)
        self.assertEqual(desk.sheet[-1], answer(("prime", HARD), known))
        self.assertEqual(desk.sheet[-1][1], opened(desk.store, HARD))
        desk.do(("prune", ()))
        self.refused(desk, TooHard, TOO_HARD, ("ask", hard))
        desk.undo()
        desk.do(("ask", hard))
        self.assertIsNone(sheet_wrong(desk.sheet))

    def test_lay_and_forget(self):
        desk = Desk(most=200)
        for saying, paper in FINE[:60]:
            desk.do(("lay", saying, paper))
        self.assertEqual(desk.sheet, tuple(FINE[:60]))
        for saying, paper in BAD:
            self.refused(desk, NotPaper, {"place": 0}, ("lay", saying, paper))
        for k in (59, 0, 30, 57):
            sheet = desk.sheet
            if k < len(sheet):
                desk.do(("forget", k))
                self.assertEqual(desk.sheet, sheet[:k] + sheet[k + 1:])
        for k in (len(desk.sheet), len(desk.sheet) + 1, -1, 10 ** 400, True, False, None, "0", 0.0, (0,), ()):
            self.refused(desk, NotDeed, {}, ("forget", k))
        self.refused(Desk(), NotDeed, {}, ("forget", 0))

    def test_add_and_prune(self):
        desk, store = Desk(), ()
        for p, paper in SOME[:20]:
            desk.do(("add", p, paper))
            store = joined(store, store_of(((p, paper),)))
            self.assertEqual(desk.store, store)
        for p, paper in ((7, ("tried", 5)), (4, ("tried", 4)), (1, ("small",)), (0, None), (-7, ("tried", -7)), (10 ** 300 + 1, ("tried", 7)), (True, ("tried", True)), (None, None), ("7", ("tried", 7)), ([7], ("tried", 7)), (2.0, ("tried", 2))):
            self.refused(desk, NotPaper, {"place": 0}, ("add", p, paper))
        for value in ANY:
            self.refused(desk, NotPaper, {"place": 0}, ("add", 7, value))
            self.refused(desk, NotPaper, {"place": 0}, ("add", value, None))
        primes = [p for p, _ in desk.store]
        for chosen in (tuple(primes), tuple(primes[::2]), (primes[0],), ()):
            before = desk.store
            if all(p in dict(before) for p in chosen):
                desk.do(("prune", chosen))
                self.assertEqual(desk.store, pruned(before, chosen))
        self.refused(desk, NotInStore, {"prime": 4}, ("prune", (4, 9)))
        self.refused(desk, NotInStore, {"prime": -4}, ("prune", (-4, 2)))
        for chosen in ((2, 2), (3, 2), [2], (2, True), (None,), 2, None, "2", ((2,),), (2.0,), {2: 3}):
            self.refused(desk, NotDeed, {}, ("prune", chosen))

    def test_no_deeds(self):
        for desk in (Desk(), Desk((TWO, THREE)), Desk(most=1)):
            deeds = list(ANY) + [("ask",), ("ask", ("prime", 2), 1), ("lay", ("is", ("prime", 2))), ("lay", FINE[0]), ("add", 7), ("add", 7, ("tried", 7), 1), ("forget",), ("prune",), ("asks", 1), ["ask", ("prime", 2)], ("undo",), ("again",), ((), 1), (b"ask", ("prime", 2))]
            for deed in deeds:
                self.refused(desk, NotDeed, {}, deed)
            for deed in (("ask", ("prime", 2)), ("lay",) + FINE[0], ("add", 7, ("tried", 7)), ("prune", (2,)), ("forget", 0)):
                for value in changed(deed):
                    before = state(desk)
                    try:
                        desk.do(value)
                        desk.undo()
                    except (NotDeed, NotClaim, NotPaper, NotInStore, TooMany, TooHard):
                        pass
                    self.assertEqual(state(desk), before, value)

    def test_most(self):
        for most in (1, 2, 3, 50, 200):
            desk = Desk(most=most) if most != 50 else Desk()
            for _ in range(most):
                desk.do(("lay",) + FINE[0])
            for deed in (("lay",) + FINE[0], ("lay",) + BAD[0], ("ask", None), ("forget", 0), ("add", 4, None), ("prune", (4,)), ("ask", ("perfect", P * Q))):
                self.refused(desk, TooMany, {"limit": most}, deed)
            for deed in (None, ("forget", most), ("prune", [2])):
                self.refused(desk, NotDeed, {}, deed)
            desk.undo()
            self.refused(desk, NotPaper, {"place": 0}, ("lay",) + BAD[0])
            desk.do(("ask", ("prime", 7)))
            self.refused(desk, TooMany, {"limit": most}, ("ask", ("prime", 7)))

    def test_undo_and_again(self):
        desk = Desk((TWO,))
        refused(self, NotDone, {}, desk.undo)
        refused(self, NotUndone, {}, desk.again)
        states, deeds = [state(desk)], [("ask", ("prime", 7)), ("add", 3, told_prime(3)[1]), ("lay",) + FINE[3], ("forget", 0), ("prune", (2,)), ("add", 13, ("tried", 13))]
        for deed in deeds:
            desk.do(deed)
            states.append(state(desk))
        refused(self, NotUndone, {}, desk.again)
        for k in range(len(deeds) - 1, -1, -1):
            self.assertEqual(desk.undo(), deeds[k])
            self.assertEqual(state(desk), states[k])
        refused(self, NotDone, {}, desk.undo)
        self.assertEqual(state(desk), states[0])
        for k, deed in enumerate(deeds):
            self.assertEqual(desk.again(), deed)
            self.assertEqual(state(desk), states[k + 1])
        refused(self, NotUndone, {}, desk.again)
        self.assertEqual(state(desk), states[-1])
        # A deed that is done forgets what was taken back, one that is refused does not.
        desk.undo()
        desk.undo()
        self.refused(desk, NotPaper, {"place": 0}, ("add", 4, ("tried", 4)))
        self.refused(desk, NotDeed, {}, None)
        self.assertEqual(desk.again(), deeds[4])
        desk.undo()
        desk.do(("ask", ("prime", 9)))
        refused(self, NotUndone, {}, desk.again)

    def test_drawn_deeds(self):
        source = some(787)
        for most in (3, 20, 60):
            store = store_of(tuple(source.sample(SOME[:10], 3)))
            desk, model = Desk(store, most=most), Model(store, most)
            for _ in range(150):
                kind = source.randrange(8)
                if kind == 0 and model.done:
                    self.assertEqual(desk.undo(), model.undo())
                elif kind == 1 and model.back:
                    self.assertEqual(desk.again(), model.again())
                elif kind > 1:
                    deed = self.deed(source, model.now())
                    if model.do(deed) is TooMany:
                        self.refused(desk, TooMany, {"limit": most}, deed)
                    else:
                        desk.do(deed)
                if source.random() < .1:
                    desk, other = desk.twin(), desk
                    self.assertEqual(state(desk), state(other))
                self.assertEqual(state(desk), model.now())

    def deed(self, source, now):
        store, sheet, _ = now
        kind = source.choice(("ask", "lay", "add", "forget", "prune"))
        if kind == "ask":
            return ("ask", source.choice(small_claims()))
        if kind == "lay" or kind == "forget" and not sheet:
            return ("lay",) + source.choice(FINE)
        if kind == "forget":
            return ("forget", source.randrange(len(sheet)))
        if kind == "add":
            return ("add",) + source.choice(SOME[:12])
        return ("prune", tuple(sorted(source.sample([p for p, _ in store], source.randrange(len(store) + 1)))))

    def test_twins(self):
        desk = Desk((TWO,), most=5)
        for deed in (("ask", ("prime", 7)), ("add", 3, ("tried", 3)), ("lay",) + FINE[0]):
            desk.do(deed)
        desk.undo()
        twin = desk.twin()
        self.assertIsNot(twin, desk)
        self.assertIs(type(twin), Desk)
        self.assertEqual(state(twin), state(desk))
        before = state(desk)
        self.assertEqual(twin.again(), ("lay",) + FINE[0])
        self.assertEqual(state(desk), before)
        self.assertEqual(desk.again(), ("lay",) + FINE[0])
        for k in range(3):
            twin.undo()
        refused(self, NotDone, {}, twin.undo)
        self.assertEqual(len(desk.deeds), 3)
        for k in range(2):
            desk.do(("ask", ("prime", k)))
        refused(self, TooMany, {"limit": 5}, desk.do, ("ask", ("prime", 2)))
        self.assertEqual(len(twin.deeds), 0)
        refused(self, TooMany, {"limit": 5}, desk.twin().do, ("ask", ("prime", 2)))
        twin.do(("prune", ()))
        self.assertEqual((desk.store != (), twin.store), (True, ()))

    def test_nothing_that_is_handed_out_can_change_it(self):
        desk = Desk((TWO,))
        for deed in (("ask", ("prime", 7)), ("ask", ("tells", (1, 0, 1), 5)), ("add", 3, ("tried", 3)), ("lay",) + FINE[0], ("prune", (2,))):
            kept = copy.deepcopy(deed)
            desk.do(deed)
            self.assertEqual(deed, kept)
        self.assertFalse([value for value in state(desk) if self.can_be_changed(value)])
        for name in ("store", "sheet", "deeds"):
            self.assertRaises(AttributeError, setattr, desk, name, ())
        self.assertFalse(self.can_be_changed(desk.undo()))
        self.assertFalse(self.can_be_changed(desk.again()))

    def can_be_changed(self, value):
        if isinstance(value, tuple):
            return any(self.can_be_changed(entry) for entry in value)
        return not isinstance(value, (int, str))

    def test_known_papers(self):
        paper = paper_by(17, tried(2))
        desk = Desk(store_of(((17, paper),) + KNOWN))
        desk.do(deed=("ask", ("whole", 17 * P, ((17, 1), (P, 1)))))
        self.assertEqual(desk.sheet[0][1], (opened(desk.store, 17), opened(desk.store, P)))
        self.assertEqual(Q - P, 16)
