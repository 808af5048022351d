"""The package keeps to the small part of Python that it is written in (the rules that can be seen simply)."""

import ast
import builtins
import pathlib
import re
import unittest

PACKAGE = pathlib.Path(__file__).resolve().parent.parent / "selfsay"
STATEMENTS = (ast.Assign, ast.AugAssign, ast.If, ast.While, ast.For, ast.Return, ast.Break, ast.Continue,
              ast.Pass, ast.Raise, ast.Try, ast.Expr, ast.FunctionDef, ast.ClassDef, ast.ImportFrom)
BANNED = (ast.Set, ast.SetComp, ast.DictComp, ast.GeneratorExp, ast.NamedExpr, ast.Starred, ast.Div,
          ast.MatMult, ast.AnnAssign, ast.Await)
OWN_NAMES = set("""len range enumerate zip min max sum abs sorted reversed int str bool list tuple dict set
    frozenset isinstance ord repr any all divmod Exception ValueError TypeError KeyError IndexError LookupError
    ZeroDivisionError ArithmeticError OverflowError RuntimeError NotImplementedError AttributeError
    StopIteration""".split())
OWN_METHODS = set("""append clear copy count endswith extend find get index insert isalnum isalpha isdigit
    islower isspace isupper items join keys ljust lower lstrip partition pop remove replace reverse rfind
    rjust rpartition rsplit rstrip setdefault split splitlines startswith strip update upper values zfill
    bit_length""".split())
WORDS = set("""type typing typing_extensions enum Enum IntEnum StrEnum Flag IntFlag Generic Protocol ABC
    ABCMeta namedtuple NamedTuple TypedDict TYPE_CHECKING abstractmethod""".split())
DOUBLE_UNDERSCORE = {"__init__", "__eq__", "__repr__", "__str__", "__len__"}


# Names that Python's own values bear, and those of its own functions: none is a parameter or a local.
TAKEN = set(dir(builtins))
CHANGING_VALUES = set("""items keys values pop update append clear extend insert remove reverse setdefault sort args
    encode format""".split())
ALLOWED_VALUES = {"count", "index", "title", "find", "get", "join", "lower", "upper", "split", "strip", "copy", "add"}
WALKED = ("zip", "enumerate", "reversed", "range")
WALKING = ("list", "tuple", "dict", "sorted", "sum", "any", "all", "enumerate", "zip", "min", "max")


def files():
    return sorted(path for path in PACKAGE.iterdir() if path.name != "__pycache__")


def trees():
    return [(path, ast.parse(path.read_text(encoding="ascii"))) for path in files()]


def nodes(*kinds):
    for path, tree in trees():
        for node in ast.walk(tree):
            if isinstance(node, kinds):
                yield f"{path.name}:{getattr(node, 'lineno', 0)}", node


def bound_names(tree):
    found = set()
    for node in ast.walk(tree):
        if isinstance(node, (ast.FunctionDef, ast.ClassDef)):
            found.add(node.name)
        elif isinstance(node, ast.arg):
            found.add(node.arg)
        elif isinstance(node, ast.alias):
            found.add(node.name)
        elif isinstance(node, ast.Name) and isinstance(node.ctx, ast.Store):
            found.add(node.id)
    return found


class Language(unittest.TestCase):
    def test_files(self):
        for path in files():
            self.assertRegex(path.name, r"^([a-z][a-z0-9_]*|__init__|__main__)\.py$")
        self.assertIn("__init__.py", [path.name for path in files()])

    def test_sizes_and_signs(self):
        for path in files():
            text = path.read_text(encoding="ascii")
            self.assertRegex(text, r"\A[ -~\n]*\Z", path.name)
            self.assertLessEqual(len(text.splitlines()), 400, path.name)
            self.assertLessEqual(max(map(len, text.splitlines())), 120, path.name)
        for where, node in nodes(ast.FunctionDef):
            self.assertLessEqual(node.end_lineno - node.lineno + 1, 40, where)

    def test_words(self):
        for path in files():
            text = path.read_text(encoding="ascii")
            self.assertEqual(WORDS & set(re.findall(r"\w+", text)), set(), path.name)
            self.assertNotRegex(text, "dataclass|overload|contextmanager", path.name)

    def test_imports(self):
        for where, node in nodes(ast.Import, ast.ImportFrom):
            self.assertIsInstance(node, ast.ImportFrom, where)
            self.assertRegex(node.module, r"^selfsay\.\w+$", where)
            self.assertEqual(node.level, 0, where)
            defined = ast.parse((PACKAGE / (node.module.split(".")[1] + ".py")).read_text()).body
            for alias in node.names:
                self.assertIn(alias.name, [getattr(thing, "name", None) for thing in defined], where)

    def test_statements_and_values(self):
        for where, node in nodes(ast.stmt):
            self.assertIsInstance(node, STATEMENTS, where)
        for where, node in nodes(*BANNED):
            self.fail(f"{where} {node}")
        for where, node in nodes(ast.Assign):
            self.assertEqual(len(node.targets), 1, where)
        for where, node in nodes(ast.While, ast.For):
            self.assertEqual(node.orelse, [], where)
        for where, node in nodes(ast.ListComp):
            self.assertEqual(len(node.generators), 1, where)
            self.assertLessEqual(len(node.generators[0].ifs), 1, where)
        for where, node in nodes(ast.Constant):
            self.assertIsInstance(node.value, (int, str, type(None)), where)
            self.assertNotIn("%", str(node.value), where)

    def test_functions_and_classes(self):
        for where, node in nodes(ast.FunctionDef, ast.ClassDef):
            self.assertEqual(node.decorator_list, [], where)
            self.assertTrue(node.name in DOUBLE_UNDERSCORE or not node.name.startswith("_"), where)
        for where, node in nodes(ast.arguments):
            self.assertEqual((node.vararg, node.kwarg, node.kwonlyargs, node.posonlyargs), (None, None, [], []))
        for where, node in nodes(ast.ClassDef):
            self.assertLessEqual(len(node.bases), 1, where)

    def test_names(self):
        for path, tree in trees():
            bound = bound_names(tree)
            self.assertEqual(bound & OWN_NAMES, set(), path.name)
            for node in ast.walk(tree):
                if isinstance(node, ast.Name):
                    self.assertIn(node.id, bound | OWN_NAMES, f"{path.name}:{node.lineno}")

    def test_methods(self):
        own = {node.name for _, node in nodes(ast.FunctionDef)}
        for where, node in nodes(ast.Call):
            if isinstance(node.func, ast.Attribute):
                self.assertIn(node.func.attr, OWN_METHODS | own, where)

    def test_no_name_is_a_method_and_a_value(self):
        methods = {node.name for _, cls in nodes(ast.ClassDef) for node in cls.body
                   if isinstance(node, ast.FunctionDef)}
        values = {node.attr for _, node in nodes(ast.Attribute) if isinstance(node.ctx, ast.Store)}
        self.assertEqual(methods & values, set())
        self.assertEqual(values & CHANGING_VALUES, set())
        taken = {name for own in (str, int, list, dict, set, bytes, tuple) for name in dir(own)}
        self.assertEqual(values & taken - ALLOWED_VALUES, set())
        self.assertEqual(methods & taken - OWN_METHODS - DOUBLE_UNDERSCORE - {"add", "discard"}, set())

    def test_locals_bear_no_name_of_pythons_own_or_of_an_import(self):
        for path, tree in trees():
            taken = TAKEN | {alias.name for node in ast.walk(tree) if isinstance(node, ast.ImportFrom)
                             for alias in node.names}
            taken |= {node.name for node in tree.body if isinstance(node, ast.ClassDef)}
            for node in ast.walk(tree):
                if isinstance(node, ast.arg):
                    self.assertNotIn(node.arg, taken, f"{path.name}:{node.lineno}")
                if isinstance(node, ast.Name) and isinstance(node.ctx, ast.Store):
                    self.assertNotIn(node.id, taken, f"{path.name}:{node.lineno}")

    def test_names_of_the_top_are_bound_once(self):
        for path, tree in trees():
            found = [node.name for node in tree.body if isinstance(node, (ast.FunctionDef, ast.ClassDef))]
            found += [node.targets[0].id for node in tree.body if isinstance(node, ast.Assign)]
            self.assertEqual(len(found), len(set(found)), path.name)

    def test_walked_at_once(self):
        for path, tree in trees():
            calls = [node for node in ast.walk(tree) if isinstance(node, ast.Call)]
            walked = [node.iter for node in ast.walk(tree) if isinstance(node, (ast.For, ast.comprehension))]
            for node in calls:
                if getattr(node.func, "id", "") in WALKING:
                    walked += node.args
            for node in calls:
                name = getattr(node.func, "id", getattr(node.func, "attr", ""))
                if name in WALKED + ("items", "keys", "values", "set"):
                    self.assertTrue(any(node is other for other in walked), f"{path.name}:{node.lineno}")

    def test_no_power_but_a_written_one(self):
        for where, node in nodes(ast.BinOp):
            if isinstance(node.op, ast.Pow):
                self.assertIsInstance(node.right, ast.Constant, where)
                self.assertLessEqual(node.right.value, 64, where)

    def test_no_two_files_draw_from_one_another(self):
        drawn = {path.stem: {node.module.split(".")[1] for node in ast.walk(tree) if isinstance(node, ast.ImportFrom)}
                 for path, tree in trees()}
        while drawn:
            free = [name for name in drawn if not drawn[name] & set(drawn)]
            self.assertTrue(free, drawn)
            drawn = {name: drawn[name] for name in drawn if name not in free}

    def test_is_beside_none_and_truths_alone(self):
        for where, node in nodes(ast.Compare):
            for op, right in zip(node.ops, node.comparators):
                if isinstance(op, (ast.Is, ast.IsNot)):
                    self.assertIsInstance(right, ast.Constant, where)


if __name__ == "__main__":
    unittest.main()
