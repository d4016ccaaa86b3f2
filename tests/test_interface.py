"""The names and arguments of the interface, and what holds for every call [1]."""

import copy
import importlib
import inspect
import itertools
import pathlib
import re
import unittest

from numberpapers.desk import Desk
from numberpapers.digitnumbers import Digits
from numberpapers.sayings import KINDS
from numberpapers.squaresof import Squares
from tests.judges import KNOWN, P, Q

TWO = (2, ("tried", 2))
TEN, OTHER = (10, (1, 2, 3)), (10, (4, 5))
WHEEL = (17, 2, 4)

# For each function one call, by the names of the interface, in its sequence.
CALLS = {
    "digits": {
        "need_row": {"value": TEN}, "row_of": {"n": 5, "base": 2}, "number_of": {"row": TEN},
        "compare": {"one": TEN, "other": OTHER}, "shifted": {"row": TEN, "k": 2}, "cut": {"row": TEN, "k": 1},
        "ending": {"row": TEN, "k": 1},
    },
    "sums": {
        "added": {"one": TEN, "other": OTHER}, "less": {"one": TEN, "other": OTHER}, "carries": {"one": TEN, "other": OTHER},
        "times_digit": {"row": TEN, "d": 7}, "times": {"one": TEN, "other": OTHER}, "columns": {"one": TEN, "other": OTHER},
    },
    "longdiv": {
        "divided_digit": {"row": TEN, "d": 7}, "divided": {"row": TEN, "divisor": OTHER},
        "division_sheet": {"row": TEN, "divisor": OTHER},
        "is_division_sheet": {"row": TEN, "divisor": OTHER, "value": ("sheet", 1, ([],))},
        "power_rest": {"row": TEN, "k": 5, "modulus": OTHER},
    },
    "bases": {
        "rebased": {"row": TEN, "base": 7}, "mixed": {"n": 5, "bases": (2, 3)}, "of_mixed": {"bases": (2, 3), "value": (1, 2)},
        "balanced": {"n": -77, "base": 5}, "of_balanced": {"base": 5, "value": (1, -2)},
        "fraction": {"a": 7, "c": 12, "base": 10},
    },
    "products": {
        "times_three": {"one": TEN, "other": OTHER}, "times_five": {"one": TEN, "other": OTHER}, "three_count": {"m": 5, "n": 9},
    },
    "transforms": {
        "is_wheel": {"value": [17, 2, 4]}, "wheels": {"s": 3}, "transform": {"entries": (1, 2, 3, 4), "wheel": WHEEL},
        "back": {"entries": (1, 2, 3, 4), "wheel": WHEEL},
        "wheel_product": {"one": (1, 2, 3, 4), "other": (5, 0, 0, 16), "wheel": WHEEL}, "shift_wheel": {"s": 3, "most": 99},
        "times_rests": {"one": TEN, "other": OTHER}, "times_shifts": {"one": TEN, "other": OTHER},
    },
    "newton": {
        "inverse": {"row": TEN, "k": 5}, "divided_fast": {"row": TEN, "divisor": OTHER}, "rests_all": {"n": 99, "moduli": (7, 8)},
    },
    "roots": {
        "square_root": {"row": TEN}, "root": {"row": TEN, "k": 3}, "is_power_paper": {"n": 9, "value": ["power", 3, 2]},
        "power_paper": {"n": 10}, "whole_power": {"n": 81},
    },
    "common": {
        "common_part": {"a": 12, "b": -18}, "combined": {"a": 12, "b": -18}, "quotients": {"a": 12, "b": 18},
        "of_quotients": {"row": (0, 1, 2)},
    },
    "chains": {
        "chain": {"a": -7, "b": 3}, "convergents": {"row": (3, 7)}, "neighbours": {"a": 22, "b": 7, "most": 5},
        "nearest": {"a": 22, "b": 7, "most": 5}, "is_neighbours": {"a": 22, "b": 7, "most": 5, "value": [[1, 2], [3, 4]]},
        "turns": {"a": 3, "b": 7}, "of_turns": {"text": "lr"},
    },
    "rests": {
        "together": {"row": ((1, 2), (2, 3))}, "unit_inverse": {"a": 3, "m": 7}, "line": {"a": 4, "b": 6, "c": 2},
        "payable": {"a": 4, "b": 6, "c": 22}, "ways": {"a": 4, "b": 6, "c": 22}, "greatest_bill": {"a": 4, "b": 7},
        "fraction_of": {"r": 5, "m": 101, "t": 3, "u": 4}, "bar_of": {"r": 5, "m": 101, "t": 3, "u": 4},
        "is_bar": {"r": 5, "m": 101, "t": 3, "u": 4, "value": [[1, 2], (3, [4])]},
    },
    "lattices": {
        "echelon": {"grid": ((2, 4), (3, 5))}, "kernel": {"grid": ((2, 4, 7),)}, "solved": {"grid": ((2, 4), (3, 5)), "sums": (1, 2)},
        "is_line_paper": {"grid": ((2, 4), (3, 5)), "sums": (1, 2), "value": ("x", [1, 2])},
    },
    "powers": {"power": {"a": 2, "e": 10, "n": 1000}},
    "trees": {"is_tree": {"value": (3, 2, [(2, 1, (2, 1, ()))])}, "tree_of": {"p": 43}, "entries": {"paper": ("tried", 7)}},
    "primepapers": {
        "prime_breach": {"n": 7, "value": ("tree", [7, 3, ()])}, "is_prime_paper": {"n": 7, "value": ("tried", 7)},
        "told_prime": {"n": 101}, "paper_by": {"n": 17, "primes": (TWO,)},
    },
    "lucas": {"lucas_at": {"P": 1, "Q": 3, "k": 10, "n": 101}},
    "soft": {"leftover_of": {"n": 2 * 100003}, "is_soft": {"n": 2 * 100003}, "passes_twelve": {"n": 101}},
    "witnesses": {"is_witness": {"n": 9, "value": ["divisor", 3]}, "least_strong": {"n": 91}, "strong_count": {"n": 91}},
    "sieves": {"sieve": {"most": 30}, "next_prime": {"n": 30}},
    "families": {"mersenne": {"p": 7}},
    "trials": {"taken_out": {"n": 360, "most": 3}},
    "wholeparts": {
        "whole_breach": {"n": 12, "value": ("whole parts", 12, [(2, 2, ("tried", 2))])}, "whole_parts": {"n": 12 * P * Q, "known": KNOWN},
        "either": {"n": 91},
    },
    "coarse": {"coarse_base": {"numbers": (12, 18)}, "is_base": {"numbers": (12, 18), "value": ([2, 3], ((2, 1), (1, 2)))}},
    "walks": {
        "walk_part": {"n": 91, "c": 1, "start": 2, "most": 9}, "walk_shape": {"n": 91, "c": 1, "start": 2},
        "powers_part": {"n": 91, "a": 2, "most": 9},
    },
    "squaresdiff": {"squares_part": {"n": 91, "most": 5}, "chain_part": {"n": 91, "most": 5}},
    "subsets": {"square_subset": {"rows": (2, 3, 6)}, "subset_breach": {"rows": (2, 3, 6), "value": ("subset", [0, 1, 2])}},
    "units": {
        "unit_count": {"n": P * Q, "known": KNOWN}, "unit_exponent": {"n": P * Q, "known": KNOWN}, "units_of": {"n": 30},
    },
    "orders": {
        "order_of": {"a": 2, "n": P * Q, "known": KNOWN}, "order_paper": {"a": 2, "n": P * Q, "known": KNOWN},
        "order_denial": {"a": 1, "n": 7, "d": P * Q, "known": KNOWN}, "least_root": {"n": 2 * P, "known": KNOWN},
    },
    "unitrounds": {
        "rounds_of": {"n": 4 * P * Q, "known": KNOWN}, "unit_by": {"n": P, "exponents": (-3,), "known": KNOWN},
        "exponents_in": {"a": -5, "n": 8 * P * Q, "known": KNOWN}, "invariants_of": {"n": P * Q, "known": KNOWN},
        "ones_count": {"m": 6, "n": P * Q, "known": KNOWN}, "ones_of": {"m": 6, "n": P * Q, "known": KNOWN},
    },
    "logs": {
        "log_of": {"a": 2, "b": 8, "n": P * Q, "known": KNOWN}, "log_paper": {"a": 2, "b": 8, "n": P * Q, "known": KNOWN},
    },
    "signs": {
        "euler": {"a": -3, "p": 7}, "gauss_count": {"a": -3, "p": 7}, "floor_sum": {"a": -3, "p": 7}, "sign": {"a": -3, "n": 35},
        "sign_sheet": {"a": -3, "n": 35}, "is_sign_sheet": {"a": -3, "n": 35, "value": [(-3, 35, 1)]},
        "sign_sum": {"b": 1, "c": 2, "p": 11}, "square_neighbours": {"p": 11},
    },
    "squareroots": {
        "least_nonsquare": {"p": 23}, "square_paper": {"a": 9, "n": P * Q, "known": KNOWN},
        "is_square_paper": {"a": 9, "n": 35, "value": [3]}, "is_square_bar": {"a": 3, "n": 9, "value": ("odd", 3, 2, 1, ["tried", 3])},
    },
    "lifting": {
        "root_rows": {"a": 9, "n": P * Q, "known": KNOWN}, "how_many": {"a": 9, "n": P * Q, "known": KNOWN},
        "all_roots": {"a": 9, "n": P * Q, "known": KNOWN},
    },
    "twosquares": {
        "is_two_paper": {"n": 25, "value": ["is", (3, 4)]}, "two_paper": {"n": 25 * P * P, "known": KNOWN}, "from_root": {"n": 5, "r": 2},
        "to_root": {"n": 25, "x": 3, "y": -4}, "all_two": {"parts": ((5, 2), (13, 1))}, "count_two": {"parts": ((5, 2), (13, 1))},
        "count_proper": {"parts": ((5, 2), (13, 1))},
    },
    "foursquares": {
        "four_squares": {"n": 31}, "is_four": {"n": 31, "value": [1, 1, 2, 5]}, "three_bar": {"n": 60}, "minus_one": {"p": 7},
        "is_quat_rows": {"p": 7, "value": (2, 3, [])}, "quat_rows": {"p": 7},
        "four_of_rows": {"value": (1, 1, (((6, 0, 0, 0), (2, 2, 2, 0), (2, -2, -2, 0), (0, 0, 0, 0)),))},
    },
    "quaternions": {
        "quat_breach": {"value": [1, 1, 1, 1]}, "quat_times": {"u": (1, 1, 1, 1), "v": (0, 2, 0, 0)}, "quat_turned": {"u": (1, 1, 1, 1)},
        "quat_norm": {"u": (1, 1, 1, 1)}, "quat_divided": {"u": (10, 8, 6, 4), "v": (1, 1, 1, -1)},
        "quat_common": {"u": (10, 8, 6, 4), "v": (1, 1, 1, -1)}, "whole_turn": {"u": (1, 3, 5, 7)},
    },
    "plane": {
        "plane_divided": {"z": (7, 5), "w": (2, 1)}, "plane_common": {"z": (7, 5), "w": (2, 1)},
        "is_plane_parts": {"z": (7, 5), "value": ((1, 0), [])}, "plane_parts": {"z": (P * Q, 0), "known": KNOWN},
    },
    "forms": {
        "form_breach": {"value": [1, 0, 1]}, "check_form": {"value": (1, 0, 1)}, "discriminant": {"f": (2, 1, 3)},
        "value_of": {"f": (2, 1, 3), "x": 5, "y": -2}, "turned": {"f": (2, 1, 3), "turn": ((2, 1), (1, 1))},
    },
    "reduced": {
        "is_reduced": {"f": (2, 1, 3)}, "reduced": {"f": (5, 4, 1)}, "is_alike": {"f": (2, 1, 3), "g": (2, -1, 3)},
        "alike_paper": {"f": (2, 1, 3), "g": (3, 1, 2)}, "is_alike_paper": {"f": (2, 1, 3), "g": (3, 1, 2), "value": ("turn", [1])},
        "stabilizer": {"f": (1, 1, 1)}, "reduced_forms": {"D": -71}, "class_number": {"D": -71}, "least_values": {"f": (5, 4, 1)},
    },
    "told": {
        "told_small": {"f": (2, 1, 3), "n": 24}, "middle_roots": {"D": -23, "n": 24}, "told": {"f": (1, 0, 5), "n": P * Q, "known": KNOWN},
        "is_told_paper": {"f": (1, 0, 5), "n": 21, "value": ("pair", [1], 2)}, "proper_counts": {"D": -23, "n": 24},
    },
    "classes": {
        "lattice_of": {"f": (2, 1, 3)}, "lattice_form": {"D": -23, "lattice": (1, 2, 0)},
        "lattice_times": {"D": -23, "one": (1, 2, 0), "other": (1, 3, 0)}, "composed": {"f": (2, 1, 3), "g": (3, 1, 2)}, "one_of": {"D": -23},
        "back_of": {"f": (2, 1, 3)}, "power_of": {"f": (2, 1, 3), "k": 5}, "class_order": {"f": (2, 1, 3)}, "classes": {"D": -23},
    },
    "rivers": {
        "river_breach": {"value": [1, 0, -2]}, "check_river": {"value": (1, 0, -2)}, "river_step": {"f": (1, 0, -2)}, "river_back": {"f": (1, 0, -2)},
        "river": {"f": (1, 0, -2)}, "to_river": {"f": (7, 20, 14)}, "alike_above": {"f": (1, 0, -3), "g": (3, 0, -1)},
        "is_alike_above": {"f": (1, 0, -3), "g": (3, 0, -1), "value": ["turn", ((1, 0), (0, 1))]}, "rings": {"D": 12},
    },
    "surds": {"surd_chain": {"N": 7}, "surd_row": {"P": 3, "Q": -4, "N": 7}},
    "pell": {
        "pell": {"N": 13}, "pell_all": {"N": 13, "count": 3}, "pell_below": {"N": 13}, "pell_value": {"N": 13, "m": -3},
        "is_least_pell": {"N": 3, "value": [2, 1], "letters": "rlr"}, "is_no_pell_below": {"N": 3, "letters": "rlr"},
    },
    "toldabove": {"told_above": {"f": (1, 0, -7), "n": -3}, "is_told_above": {"f": (1, 0, -7), "n": -3, "value": ("pair", 2, [1])}},
    "divisors": {
        "divisors": {"n": P * Q, "known": KNOWN}, "divisor_sum": {"n": P * Q, "k": 3, "known": KNOWN}, "moebius": {"n": P * Q, "known": KNOWN},
    },
    "rowsof": {
        "values_row": {"word": "sum", "size": 12}, "product_of": {"f": (1, 2, 3), "g": (4, 5, 6)}, "entrywise": {"f": (1, 2, 3), "g": (4, 5, 6)},
        "turned_back": {"f": (1, 2, 3)}, "splits": {"f": (1, 2, 3)}, "splits_always": {"f": (1, 2, 3)}, "row_by_powers": {"f": (1, 2, 3, 4, 5, 7)},
    },
    "perfect": {"perfect_paper": {"n": P * Q, "known": KNOWN}, "even_perfect": {"most": 500}},
    "circles": {"circle_row": {"n": 12}, "circle_value": {"n": 12, "x": -3}, "prime_above": {"n": 12, "bound": 40}},
    "fibonacci": {
        "fibonacci_rest": {"k": 10, "m": 7}, "fibonacci_round": {"m": 2 * P, "known": KNOWN}, "fibonacci_rank": {"m": 2 * P, "known": KNOWN},
        "round_paper": {"m": 2 * P, "known": KNOWN}, "round_denial": {"m": 1, "r": P * Q, "known": KNOWN},
    },
    "heights": {
        "height": {"p": 3, "n": -54}, "factorial_height": {"p": 3, "n": 100}, "choose_height": {"p": 3, "n": 100, "m": 30}, "carries_at": {"p": 3, "a": 30, "b": 70},
        "factorial_figure": {"p": 3, "n": 100}, "choose_rest": {"p": 3, "n": 100, "m": 30}, "difference_height": {"p": 3, "a": 10, "b": -5, "n": 12},
    },
    "rootlots": {
        "root_lots": {"f": (-1, 0, 1), "p": 2, "k": 5}, "root_count": {"f": (-1, 0, 1), "p": 2, "k": 5}, "is_endless_paper": {"value": ("root", [-2, 0, 1], 7, 3, 0)},
        "endless_root": {"f": (-2, 0, 1), "p": 7}, "root_figures": {"paper": ("root", (-2, 0, 1), 7, 3, 0), "count": 5}, "endless_roots": {"f": (-2, 0, 1), "p": 7},
    },
    "endless": {"endless_row": {"p": 5, "a": 1, "b": 3, "most": 7}, "endless_fraction": {"p": 5, "row": ((2,), (3, 1))}},
    "nearunits": {"log_rest": {"p": 5, "k": 3, "a": 6}, "exponent_of": {"p": 5, "k": 3, "a": 11}, "split_unit": {"p": 5, "k": 3, "a": 7}},
    "sayings": {
        "claim_breach": {"value": ["prime", 7]}, "saying_breach": {"value": ("is", ["prime", 7])}, "opposite": {"saying": ("is", ("prime", 7))}, "size_of": {"paper": ("tried", 7)},
    },
    "judging": {"judge": {"saying": ("is", ("prime", 7)), "paper": ["tried", 7]}},
    "answers": {"answer": {"claim": ("perfect", P * Q), "known": KNOWN}},
    "sheets": {
        "answered": {"claims": (("perfect", P * Q), ("prime", 7)), "known": KNOWN}, "sheet_breach": {"value": [(("is", ("prime", 7)), ("tried", 7))]},
        "check_sheet": {"value": ((("is", ("prime", 7)), ("tried", 7)),)},
    },
    "stores": {
        "store_breach": {"value": [TWO]}, "store_of": {"papers": (TWO, (3, ("tree", (3, 2, ((2, 1, (2, 1, ())),)))))}, "opened": {"store": (TWO,), "p": 2},
        "joined": {"one": (TWO,), "other": ((3, ("tried", 3)),)}, "pruned": {"store": (TWO, (3, ("tried", 3))), "primes": (3,)},
    },
}

# What may be left out.
DEFAULTS = {"known": ()}


def called():
    for stem, functions in CALLS.items():
        module = importlib.import_module("numberpapers." + stem)
        for name, arguments in functions.items():
            yield module, name, getattr(module, name), arguments


def can_be_changed(value):
    if isinstance(value, tuple):
        return any(can_be_changed(entry) for entry in value)
    return not (value is None or isinstance(value, (int, str)))


class Interface(unittest.TestCase):
    def test_names_and_arguments(self):
        for module, name, function, arguments in called():
            self.assertTrue(inspect.isfunction(function))
            self.assertEqual(function.__module__, module.__name__, name)
            parameters = inspect.signature(function).parameters
            self.assertEqual(list(parameters), list(arguments), name)
            for parameter in parameters.values():
                self.assertEqual(parameter.default, DEFAULTS.get(parameter.name, parameter.empty), name)

    def test_arguments_by_name_in_any_sequence(self):
        for module, name, function, arguments in called():
            wanted = function(*arguments.values())
            for order in itertools.permutations(arguments.items()):
                self.assertEqual(function(**dict(order)), wanted, name)

    def test_nothing_that_is_handed_in_is_changed(self):
        for module, name, function, arguments in called():
            before = copy.deepcopy(arguments)
            function(**arguments)
            self.assertEqual(arguments, before, name)

    def test_equal_calls_return_equal_values(self):
        for module, name, function, arguments in called():
            first = function(**arguments)
            second = function(**copy.deepcopy(arguments))
            self.assertEqual(repr(first), repr(second), name)

    def test_nothing_that_can_be_changed_is_handed_out(self):
        for module, name, function, arguments in called():
            self.assertFalse(can_be_changed(function(**arguments)), name)

    def test_what_tells_whether_returns_true_or_false(self):
        for module, name, function, arguments in called():
            if name.startswith("is_") or name in ("passes_twelve", "splits", "splits_always", "judge"):
                self.assertIn(function(**arguments), (True, False))
                self.assertIs(type(function(**arguments)), bool, name)

    def test_squares(self):
        self.assertEqual(Squares.__module__, "numberpapers.squaresof")
        parameters = inspect.signature(Squares).parameters
        self.assertEqual([(p.name, p.kind.name) for p in parameters.values()], [("n", "POSITIONAL_OR_KEYWORD"), ("known", "KEYWORD_ONLY")])
        for name in ("modulus", "size", "__contains__", "__call__", "__eq__"):
            self.assertIn(name, vars(Squares))
        known = copy.deepcopy(KNOWN)
        squares = Squares(known=known, n=P * Q)
        self.assertFalse(can_be_changed((squares.modulus, squares.size, squares(4), 4 in squares)))
        self.assertEqual(known, KNOWN)

    def test_desk(self):
        self.assertEqual(Desk.__module__, "numberpapers.desk")
        parameters = inspect.signature(Desk).parameters
        self.assertEqual([(p.name, p.kind.name, p.default) for p in parameters.values()], [("store", "POSITIONAL_OR_KEYWORD", ()), ("most", "KEYWORD_ONLY", 50)])
        for name in ("store", "sheet", "deeds", "do", "undo", "again", "twin"):
            self.assertIn(name, vars(Desk))
        for name, names in (("do", ["self", "deed"]), ("undo", ["self"]), ("again", ["self"]), ("twin", ["self"])):
            self.assertEqual(list(inspect.signature(getattr(Desk, name)).parameters), names)
        self.assertTrue(all(isinstance(vars(Desk)[name], property) for name in ("store", "sheet", "deeds")))

    def test_kinds(self):
        self.assertFalse(can_be_changed(KINDS))
        self.assertEqual(len(KINDS), 16)

    def test_digits(self):
        self.assertEqual(Digits.__module__, "numberpapers.digitnumbers")
        one, other = Digits(row=TEN), Digits.of(base=10, n=54)
        self.assertTrue(other == Digits(OTHER))
        for name in ("plus", "minus", "times", "divided_by", "rest_by"):
            self.assertIn(name, vars(Digits))
            self.assertEqual(list(inspect.signature(getattr(Digits, name)).parameters), ["self", "other"])
            self.assertTrue(getattr(one, name)(other=other) == getattr(one, name)(other))
        self.assertEqual((one.row, one.base, one.number, len(one), list(one)), (TEN, 10, 321, 3, [1, 2, 3]))

    def test_the_whole_interface(self):
        document = pathlib.Path(__file__).resolve().parent.parent.parent / "shared" / "DOC.md"
        if not document.exists():
            self.skipTest("the document is not here")
        text = document.read_text()
        classes = {"errors", "digitnumbers", "squaresof", "desk"}
        for part in text[text.index("# The interface"):].split("### numberpapers/")[1:]:
            stem = part.split(".py")[0]
            calls = {name: names for name, names in re.findall(r"`([a-z_]+)\(([^)]*)\)", part)}
            self.assertIn(stem, set(CALLS) | classes)
            for name, names in calls.items() if stem in CALLS else ():
                self.assertEqual([word.strip().split("=")[0] for word in names.split(",")], list(CALLS[stem][name]), name)
            if stem in CALLS:
                self.assertEqual(set(calls), set(CALLS[stem]))
