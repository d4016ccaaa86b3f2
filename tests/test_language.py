"""The form of the package's files: the rules of the language that a look at the code can tell."""

import ast
import builtins
import pathlib
import re
import unittest

PACKAGE = pathlib.Path(__file__).resolve().parent.parent / "numberpapers"
FILES = sorted(PACKAGE.glob("*.py"))

LIBRARY = {"math": {"gcd", "lcm", "isqrt", "comb", "perm", "factorial"}}
BUILTINS = set(
    "len range enumerate zip min max sum abs sorted reversed int str bool bytes list tuple dict set frozenset "
    "isinstance ord repr any all divmod iter next ValueError TypeError KeyError IndexError property staticmethod "
    "classmethod super".split()
)
METHODS = set(
    "append clear copy count endswith extend find get index insert isalnum isalpha isdigit islower isspace isupper "
    "items join keys ljust lower lstrip partition pop remove replace reverse rfind rjust rpartition rsplit rstrip "
    "setdefault split splitlines startswith strip update upper values zfill bit_length add discard".split()
)
AT_ONCE = {"zip", "enumerate", "reversed", "range"}
TAKERS = {"list", "tuple", "dict", "sorted", "sum", "any", "all", "enumerate", "zip", "min", "max"}
BARRED_NAMES = set(
    "register mro elements open input law version_info with_traceback add_note attrgetter breakpoint builtins compile "
    "copyright credits delattr dir eval exec exit gc getattr globals hasattr help id importlib license locals "
    "methodcaller os quit setattr vars sys".split()
)
BARRED_WORDS = (
    r"\b(typing|typing_extensions|enum|Enum|IntEnum|StrEnum|Flag|IntFlag|Generic|Protocol|ABC|ABCMeta|namedtuple|"
    r"NamedTuple|TypedDict|TYPE_CHECKING|abstractmethod|_wall|_WallAttr)\b|dataclass|overload|contextmanager"
)
BARRED_NODES = (
    ast.AsyncFunctionDef, ast.AsyncFor, ast.AsyncWith, ast.Await, ast.Global, ast.Nonlocal, ast.Lambda,
    ast.GeneratorExp, ast.Yield, ast.YieldFrom, ast.Set, ast.SetComp, ast.Try, ast.With, ast.JoinedStr, ast.NamedExpr,
    ast.Div, ast.MatMult, ast.Match, ast.AnnAssign, ast.Delete, ast.Assert,
)


def tree_of_file(path):
    return ast.parse(path.read_text())


def functions_in(tree):
    return [node for node in ast.walk(tree) if isinstance(node, ast.FunctionDef)]


def bound_in(function):
    """The names that a function binds: parameters, targets, loops, comprehensions."""
    names = [arg.arg for arg in ast.walk(function.args) if isinstance(arg, ast.arg)]
    names += [n.id for n in ast.walk(function) if isinstance(n, ast.Name) and isinstance(n.ctx, ast.Store)]
    return set(names)


class EachFile(unittest.TestCase):
    def each(self):
        return [(path, path.read_text(), tree_of_file(path)) for path in FILES]

    def test_only_python_files_of_plain_names(self):
        found = [path for path in PACKAGE.iterdir() if path.name != "__pycache__"]
        self.assertEqual(sorted(found), FILES)
        for path in FILES:
            self.assertRegex(path.stem, r"^(__init__|[a-z][a-z0-9]*)$")
            self.assertFalse(path.stem != "__init__" and hasattr(builtins, path.stem))
        self.assertLessEqual(len(FILES), 100)

    def test_sizes_and_signs(self):
        for path, text, tree in self.each():
            self.assertTrue(text.isascii())
            self.assertNotIn("\t", text)
            self.assertLessEqual(len(text.splitlines()), 399)
            self.assertLessEqual(max(map(len, text.splitlines())), 120)
            for function in functions_in(tree):
                self.assertLessEqual(function.end_lineno - function.lineno + 1, 40, function.name)

    def test_nothing_that_is_barred(self):
        for path, text, tree in self.each():
            self.assertIsNone(re.search(BARRED_WORDS, text))
            for node in ast.walk(tree):
                self.assertNotIsInstance(node, BARRED_NODES, getattr(node, "lineno", None))

    def test_module_level(self):
        for path, text, tree in self.each():
            self.assertIsNotNone(ast.get_docstring(tree))
            for node in tree.body[1:]:
                self.assertIsInstance(node, (ast.ImportFrom, ast.FunctionDef, ast.ClassDef, ast.Assign))
                if isinstance(node, ast.Assign):
                    self.assertEqual(len(node.targets), 1)
                    self.assertIsInstance(node.targets[0], ast.Name)
                    self.assertFalse([n for n in ast.walk(node.value) if isinstance(n, (ast.Call, ast.List))])
            for node in ast.walk(tree):
                if isinstance(node, (ast.FunctionDef, ast.ClassDef)):
                    if path.name != "errors.py" and not node.name.startswith("__"):
                        self.assertIsNotNone(ast.get_docstring(node), node.name)

    def test_imports(self):
        for path, text, tree in self.each():
            behind = False
            for node in tree.body[1:]:
                if not isinstance(node, ast.ImportFrom):
                    behind = True
                    continue
                self.assertFalse(behind, "imports stand at the top")
                self.assertEqual(node.level, 0)
                self.assertTrue(all(name.asname is None and name.name != "*" for name in node.names))
                names = {name.name for name in node.names}
                if node.module in LIBRARY:
                    self.assertLessEqual(names, LIBRARY[node.module])
                else:
                    package, stem = node.module.split(".")
                    self.assertEqual(package, "numberpapers")
                    self.assertLessEqual(names, self.defined_in(PACKAGE / (stem + ".py")))
                used = {n.id for n in ast.walk(tree) if isinstance(n, ast.Name)}
                self.assertLessEqual(names, used, "an import is not used")

    def defined_in(self, path):
        names = set()
        for node in tree_of_file(path).body:
            if isinstance(node, (ast.FunctionDef, ast.ClassDef)):
                names.add(node.name)
            if isinstance(node, ast.Assign):
                names.add(node.targets[0].id)
        return names

    def test_no_two_files_import_from_each_other(self):
        into = {}
        for path in FILES:
            nodes = [node for node in tree_of_file(path).body if isinstance(node, ast.ImportFrom)]
            into[path.stem] = {n.module.split(".")[1] for n in nodes if n.module.startswith("numberpapers.")}
        while into:
            free = [stem for stem in into if not into[stem] & set(into)]
            self.assertTrue(free, into)
            for stem in free:
                del into[stem]

    def test_names(self):
        for path, text, tree in self.each():
            imports = {a.name for n in tree.body if isinstance(n, ast.ImportFrom) for a in n.names}
            classes = {n.name for n in tree.body if isinstance(n, ast.ClassDef)}
            top = [n.name for n in tree.body if isinstance(n, (ast.FunctionDef, ast.ClassDef))]
            top += [n.targets[0].id for n in tree.body if isinstance(n, ast.Assign)] + sorted(imports)
            self.assertEqual(len(top), len(set(top)), "a name is bound twice")
            for function in functions_in(tree):
                bound = bound_in(function)
                self.assertFalse(bound & (imports | classes), function.name)
                self.assertFalse(bound & set(top), function.name)
                for name in bound:
                    self.assertFalse(hasattr(builtins, name), name)
                    self.assertRegex(name, r"^(_|_?[A-Za-z][A-Za-z0-9_]*)$")
                    self.assertNotIn(name, BARRED_NAMES)
            for name in top:
                self.assertFalse(hasattr(builtins, name), name)
                self.assertNotIn(name, BARRED_NAMES)

    def test_builtins_and_their_calls(self):
        for path, text, tree in self.each():
            for node in ast.walk(tree):
                if isinstance(node, ast.Name) and hasattr(builtins, node.id):
                    self.assertIn(node.id, BUILTINS)
                if isinstance(node, ast.Call) and isinstance(node.func, ast.Name) and node.func.id in BUILTINS:
                    self.assertFalse(node.keywords)
                if isinstance(node, ast.Name) and node.id == "_":
                    self.assertIsInstance(node.ctx, ast.Store)

    def test_views_are_iterated_at_once(self):
        for path, text, tree in self.each():
            fine = set()
            for node in ast.walk(tree):
                if isinstance(node, (ast.For, ast.comprehension)):
                    fine.add(id(node.iter))
                if isinstance(node, ast.Call) and isinstance(node.func, ast.Name) and node.args:
                    if node.func.id in TAKERS:
                        fine.add(id(node.args[0]))
                    if node.func.id == "reversed" and ast.unparse(node.args[0]).startswith("range("):
                        fine.add(id(node.args[0]))
                if isinstance(node, ast.Assign) and ast.unparse(node.value).startswith("range("):
                    fine.add(id(node.value))
            for node in ast.walk(tree):
                if isinstance(node, ast.Call) and isinstance(node.func, ast.Name) and node.func.id in AT_ONCE:
                    self.assertIn(id(node), fine, ast.unparse(node))

    def test_methods_and_attributes(self):
        own = {"row", "base", "number", "plus", "minus", "times", "divided_by", "rest_by", "of", "modulus"}
        for path, text, tree in self.each():
            for node in ast.walk(tree):
                if isinstance(node, ast.Attribute):
                    owned = isinstance(node.value, ast.Name) and node.value.id in ("self", "other" if path.name == "desk.py" else "self")
                    self.assertTrue(owned or node.attr in METHODS | own, ast.unparse(node))
                if isinstance(node, ast.Call) and isinstance(node.func, ast.Attribute):
                    self.assertFalse(node.keywords, ast.unparse(node))
                if isinstance(node, ast.FunctionDef):
                    for decorator in node.decorator_list:
                        self.assertIn(ast.unparse(decorator), ("property", "staticmethod"))

    def test_operators_and_constants(self):
        for path, text, tree in self.each():
            for node in ast.walk(tree):
                if isinstance(node, ast.BinOp) and isinstance(node.op, ast.Pow):
                    self.assertIsInstance(node.right, ast.Constant)
                    self.assertTrue(0 <= node.right.value <= 64)
                if isinstance(node, ast.Constant):
                    self.assertIsInstance(node.value, (int, str, bool, type(None)))
                if isinstance(node, ast.Compare):
                    for op, right in zip(node.ops, node.comparators):
                        if isinstance(op, (ast.Is, ast.IsNot)):
                            self.assertIn(ast.unparse(right), ("None", "True", "False"))
            self.assertFalse([s for s in self.strings(tree) if "%" in s])

    def strings(self, tree):
        """All strings that are no docstrings."""
        docs = [node.value for node in ast.walk(tree) if isinstance(node, ast.Expr)]
        constants = [node for node in ast.walk(tree) if isinstance(node, ast.Constant)]
        return [node.value for node in constants if isinstance(node.value, str) and node not in docs]

    def test_loops_do_not_change_what_they_go_over(self):
        for path, text, tree in self.each():
            for function in functions_in(tree):
                self.assertEqual(changed_in_loops(function), [], path.name)

    def test_that_changes_behind_other_names_are_seen(self):
        for text, count in (
            ("for x in xs:\n  xs.append(x)", 1), ("for x in xs:\n  ys.append(x)", 0), ("ys = xs\nfor x in xs:\n  ys.append(x)", 1),
            ("ys = xs if a else b\nfor x in ys:\n  xs.append(x)", 1), ("for a in b:\n  ys = []\n  for x in xs:\n    ys.append(x)\n  xs = ys if a else ys + [a]", 1),
            ("ys = xs or b\nfor x in ys:\n  b.pop()", 1), ("ys, b = xs, a\nfor x in xs:\n  ys.pop()", 1), ("ys = list(xs)\nfor x in xs:\n  ys.pop()", 0),
            ("for x in list(xs):\n  xs.pop()", 0), ("for k, x in enumerate(xs):\n  xs[k] = x", 1), ("for x in xs:\n  xs[0] += x", 1), ("ys = [xs for k in xs]\nfor x in ys:\n  xs.pop()", 0),
        ):
            tree = ast.parse("def told(xs, a, b):\n  " + text.replace("\n", "\n  "))
            self.assertEqual(len(changed_in_loops(tree.body[0])) > 0, count > 0, text)


def names_behind(node):
    """The names that an expression may be the very value of."""
    if isinstance(node, ast.Name):
        return [node.id]
    if isinstance(node, ast.IfExp):
        return names_behind(node.body) + names_behind(node.orelse)
    if isinstance(node, ast.BoolOp):
        return [name for value in node.values for name in names_behind(value)]
    return []


def same_values(function):
    """For each name of a function all names that may stand for the same value."""
    joined = {}
    for node in ast.walk(function):
        if not isinstance(node, ast.Assign):
            continue
        for target in node.targets:
            pairs = [(target, node.value)]
            if isinstance(target, ast.Tuple) and isinstance(node.value, ast.Tuple):
                pairs = list(zip(target.elts, node.value.elts))
            for one, value in pairs:
                for name in names_behind(value) if isinstance(one, ast.Name) else []:
                    lot = joined.get(one.id, {one.id}) | joined.get(name, {name})
                    for each in lot:
                        joined[each] = lot
    return joined


def changed_in_loops(function):
    """What stands in loops of a function and changes what they go over, by any name."""
    changing = {"append", "extend", "insert", "pop", "remove", "clear", "reverse", "update", "setdefault", "sort"}
    joined, found = same_values(function), []
    for loop in [node for node in ast.walk(function) if isinstance(node, ast.For)]:
        over = loop.iter
        while isinstance(over, ast.Call) and isinstance(over.func, ast.Name) and over.func.id in ("enumerate", "reversed", "zip") and over.args:
            over = over.args[0] if len(over.args) == 1 else ast.BoolOp(ast.Or(), over.args)
        names = {each for name in names_behind(over) for each in joined.get(name, {name})}
        for node in [n for row in loop.body for n in ast.walk(row)]:
            if isinstance(node, ast.Call) and isinstance(node.func, ast.Attribute) and node.func.attr in changing:
                found += [ast.unparse(node)] if ast.unparse(node.func.value) in names else []
            if isinstance(node, ast.Subscript) and isinstance(node.ctx, (ast.Store, ast.Del)):
                found += [ast.unparse(node)] if ast.unparse(node.value) in names else []
    return found


if __name__ == "__main__":
    unittest.main()
