"""Whether the package keeps to the part of Python that it is to be written in, as far as a walk over it can tell."""

import ast
import pathlib
import re
import unittest

PACKAGE = pathlib.Path(__file__).resolve().parent.parent / "broadrow"

INTERFACE = {
    "errors": "BroadError NoText NoKind NoPlace NoThing NoRule NoLine",
    "kinds": "is_kind kind_text read_kind take_kind",
    "worths": "is_worth worth_text read_worth take_worth size",
    "trees": "is_name is_tree parts with_parts binding places part_at put_at free_names",
    "programs": "is_program program_text read_program",
    "kinding": "kinds_of",
    "plain": "read",
    "ledgers": "ledger",
    "flats": "flat_of worths_of is_flat many_in size_in parted",
    "taking": "taken behind kept merged spread first_ones",
    "wide": "wide_step",
    "laid": "laid unlaid is_laid",
    "running": "run run_steps",
    "waits": "waits",
    "papers": "paper is_paper",
    "rules": "is_sure fitting put_otherwise now_at",
    "chains": "is_chain settled",
    "hands": "timetable is_timetable shown shows",
    "desk": "Desk",
}

# The package's own affair: what it holds may be drawn by others, whatever it is.
OWN = ("single", "reading", "stops", "widths", "alike", "frames", "course", "patterns", "recast")

STATEMENTS = (
    ast.Assign, ast.AugAssign, ast.If, ast.While, ast.For, ast.Return, ast.Break, ast.Continue, ast.Pass, ast.Raise,
    ast.Try, ast.Expr, ast.FunctionDef, ast.ClassDef, ast.ImportFrom,
)

EXPRESSIONS = (
    ast.Constant, ast.List, ast.Tuple, ast.Dict, ast.Set, ast.BinOp, ast.UnaryOp, ast.BoolOp, ast.Compare, ast.IfExp,
    ast.Call, ast.Attribute, ast.Subscript, ast.Slice, ast.ListComp, ast.JoinedStr, ast.FormattedValue, ast.Name,
    ast.Lambda,
)

NAMES = set("""
    len range enumerate zip min max sum abs sorted reversed int str bool list tuple dict set frozenset isinstance ord
    repr any all divmod Exception ValueError TypeError KeyError IndexError LookupError ZeroDivisionError ArithmeticError
    OverflowError RuntimeError NotImplementedError AttributeError StopIteration
""".split())

METHODS = set("""
    append clear copy count endswith extend find get index insert isalnum isalpha isdigit islower isspace isupper items
    join keys ljust lower lstrip partition pop remove replace reverse rfind rjust rpartition rsplit rstrip setdefault
    split splitlines startswith strip update upper values zfill bit_length
""".split())

UNUSED = set("""
    register mro elements open input version_info with_traceback add_note attrgetter breakpoint builtins compile
    copyright credits delattr dir eval exec exit gc getattr globals hasattr help id importlib license locals
    methodcaller os quit setattr super type vars sys format format_map
""".split())

WORDS = re.compile(
    r"\b(type|typing|typing_extensions|enum|Enum|IntEnum|StrEnum|Flag|IntFlag|Generic|Protocol|ABC|ABCMeta|namedtuple"
    r"|NamedTuple|TypedDict|TYPE_CHECKING|abstractmethod)\b|dataclass|overload|contextmanager"
)

WALKERS = ("list", "tuple", "dict", "sorted", "sum", "any", "all", "enumerate", "zip")

PYTHONS_OWN = set(dir(__builtins__) if not isinstance(__builtins__, dict) else __builtins__)
VALUES_OWN = set().union(*[dir(one) for one in ("", 0, [], {}, set(), b"", ())])


def files():
    return sorted(PACKAGE.glob("*.py"))


def walk(path):
    return ast.walk(ast.parse(path.read_text(encoding="utf-8")))


def defs(path, *kinds):
    return [node for node in walk(path) if isinstance(node, kinds)]


def tops(path):
    """The names that a file's top binds."""
    found = []
    for node in ast.parse(path.read_text()).body:
        if isinstance(node, (ast.FunctionDef, ast.ClassDef)):
            found.append(node.name)
        elif isinstance(node, ast.ImportFrom):
            found += [one.name for one in node.names]
        elif isinstance(node, ast.Assign):
            found += [one.id for one in node.targets]
    return found


def bound_in(function):
    """The parameters and locals of a function."""
    found = [one.arg for one in ast.walk(function) if isinstance(one, ast.arg)]
    found += [one.id for one in ast.walk(function) if isinstance(one, ast.Name) and isinstance(one.ctx, ast.Store)]
    return found + [one.name for one in ast.walk(function) if isinstance(one, ast.ExceptHandler) and one.name]


def imports(path):
    return [(node.module, one) for node in defs(path, ast.ImportFrom) for one in node.names]


def is_plain(node, above):
    """Whether a value of a file's top is plain: written out, or a function that stands above."""
    if isinstance(node, (ast.Tuple, ast.List)):
        return all(is_plain(one, above) for one in node.elts)
    if isinstance(node, ast.Dict):
        return all(is_plain(one, above) for one in node.keys + node.values)
    if isinstance(node, ast.Name):
        return node.id in above
    return isinstance(node, ast.Constant) and isinstance(node.value, (int, str, type(None)))


class Language(unittest.TestCase):
    def test_files(self):
        self.assertTrue((PACKAGE / "__init__.py").exists())
        for path in PACKAGE.iterdir():
            if path.name != "__pycache__":
                self.assertRegex(path.name, r"^[a-z0-9_]+\.py$")
                self.assertNotIn(path.stem, PYTHONS_OWN)

    def test_signs_and_sizes(self):
        for path in files():
            text = path.read_text(encoding="utf-8")
            self.assertRegex(text, r"^[ -~\n]*$", path.name)
            self.assertIsNone(WORDS.search(text), path.name)
            self.assertLessEqual(len(text.split("\n")), 400, path.name)
            self.assertLessEqual(max(len(line) for line in text.split("\n")), 120, path.name)
            for node in defs(path, ast.FunctionDef):
                self.assertLessEqual(node.end_lineno - node.lineno + 1, 40, (path.name, node.name))

    def test_imports(self):
        drawn = {}
        for path in files():
            drawn[path.stem] = []
            for module, one in imports(path):
                self.assertTrue(module.startswith("broadrow."), path.name)
                stem = module.split(".")[1]
                drawn[path.stem].append(stem)
                self.assertIsNone(one.asname)
                self.assertIn(one.name, tops(PACKAGE / (stem + ".py")), path.name)
                self.assertNotIn(one.name, [other.name for _, other in imports(PACKAGE / (stem + ".py"))])
                if stem not in OWN:
                    self.assertIn(one.name, INTERFACE[stem].split(), path.name)
        while drawn:
            ends = [stem for stem in drawn if not set(drawn[stem]) & set(drawn)]
            self.assertTrue(ends, "two files draw from one another")
            for stem in ends:
                drawn.pop(stem)

    def test_the_interface_is_there(self):
        for stem, names in INTERFACE.items():
            path = PACKAGE / (stem + ".py")
            if path.exists():
                for one in names.split():
                    self.assertIn(one, tops(path))

    def test_tops(self):
        for path in files():
            body = ast.parse(path.read_text()).body
            self.assertIsInstance(body[0].value.value, str)
            above = []
            for node in body[1:]:
                self.assertIsInstance(node, (ast.ImportFrom, ast.FunctionDef, ast.ClassDef, ast.Assign), path.name)
                if isinstance(node, ast.FunctionDef):
                    above.append(node.name)
                if isinstance(node, ast.Assign):
                    self.assertTrue(is_plain(node.value, above), (path.name, node.lineno))
            self.assertEqual(len(tops(path)), len(set(tops(path))))

    def test_forms(self):
        for path in files():
            for node in walk(path):
                where = (path.name, getattr(node, "lineno", 0))
                if isinstance(node, ast.stmt):
                    self.assertIsInstance(node, STATEMENTS, where)
                if isinstance(node, ast.expr):
                    self.assertIsInstance(node, EXPRESSIONS, where)
                self.assertFalse(getattr(node, "orelse", None) and isinstance(node, (ast.For, ast.While)), where)
                self.assertFalse(getattr(node, "finalbody", None), where)
                self.assertFalse(getattr(node, "decorator_list", None), where)
                self.assertIsNone(getattr(node, "annotation", None), where)
                self.assertIsNone(getattr(node, "returns", None), where)
                if isinstance(node, ast.Assign):
                    self.assertEqual(len(node.targets), 1, where)
                    self.assertNotIsInstance(node.targets[0], (ast.Tuple, ast.List), where)
                if isinstance(node, ast.Constant):
                    self.assertIsInstance(node.value, (int, str, type(None)), where)
                    self.assertNotIn("%", str(node.value), where)
                if isinstance(node, ast.FormattedValue):
                    self.assertIsInstance(node.value, ast.Name, where)
                    self.assertIsNone(node.format_spec, where)
                if isinstance(node, ast.ListComp):
                    self.assertEqual(len(node.generators), 1, where)
                    self.assertLessEqual(len(node.generators[0].ifs), 1, where)
                if isinstance(node, ast.BinOp):
                    self.assertNotIsInstance(node.op, (ast.Div, ast.MatMult, ast.Pow), where)
                if isinstance(node, ast.Expr):
                    self.assertIsInstance(node.value, (ast.Call, ast.Constant), where)

    def test_is_stands_beside_none_and_truths_alone(self):
        for path in files():
            for node in defs(path, ast.Compare):
                for op, right in zip(node.ops, node.comparators):
                    if isinstance(op, (ast.Is, ast.IsNot)):
                        self.assertIsInstance(right, ast.Constant)
                        self.assertIn(right.value, (None, True, False))

    def test_names(self):
        for path in files():
            known = set(tops(path)) | NAMES
            for node in defs(path, ast.FunctionDef):
                bound = bound_in(node)
                drawn = [one.name for _, one in imports(path)] + [one.name for one in defs(path, ast.ClassDef)]
                for one in bound:
                    self.assertRegex(one, r"^[A-Za-z][A-Za-z0-9_]*$")
                    self.assertNotIn(one, PYTHONS_OWN, (path.name, node.name))
                    self.assertNotIn(one, drawn, (path.name, node.name))
                    self.assertNotIn(one, tops(path), (path.name, node.name))
                for one in ast.walk(node):
                    if isinstance(one, ast.Name) and isinstance(one.ctx, ast.Load):
                        self.assertIn(one.id, known | set(bound), (path.name, node.name))
                        self.assertNotIn(one.id, UNUSED)
                plain = node.args
                self.assertFalse(plain.vararg or plain.kwarg or plain.kwonlyargs or plain.posonlyargs)

    def test_methods_and_values(self):
        own = {}
        for path in files():
            for node in defs(path, ast.ClassDef):
                own.update({one.name: "method" for one in node.body if isinstance(one, ast.FunctionDef)})
        for path in files():
            for node in defs(path, ast.Attribute):
                self.assertNotIn(node.attr, UNUSED, (path.name, node.lineno))
                if isinstance(node.ctx, ast.Store):
                    self.assertNotIn(node.attr, own, (path.name, node.lineno))
                    self.assertNotIn(node.attr, VALUES_OWN, (path.name, node.lineno))
                    self.assertIsInstance(node.value, ast.Name)
            for node in defs(path, ast.Call):
                if isinstance(node.func, ast.Attribute):
                    self.assertTrue(node.func.attr in METHODS or node.func.attr in own, (path.name, node.lineno))

    def test_sets_are_not_kept(self):
        for path in files():
            kept = [node.value for node in defs(path, ast.Assign)]
            kept += [node.iter for node in defs(path, ast.For, ast.comprehension)]
            kept += [node.value for node in defs(path, ast.Return)]
            for node in kept:
                self.assertNotIsInstance(node, (ast.Set, ast.SetComp))
                if isinstance(node, ast.Call) and isinstance(node.func, ast.Name):
                    self.assertNotIn(node.func.id, ("set", "frozenset"))

    def test_walked_at_once(self):
        for path in files():
            spots = [node.iter for node in defs(path, ast.For, ast.comprehension)]
            for node in defs(path, ast.Call):
                if isinstance(node.func, ast.Name) and node.func.id in WALKERS:
                    spots += node.args[:1]
                if isinstance(node.func, ast.Name) and node.func.id in ("min", "max") and len(node.args) == 1:
                    spots += node.args
                if isinstance(node.func, ast.Attribute) and node.func.attr == "join":
                    spots += node.args
            for node in defs(path, ast.Call):
                name = getattr(node.func, "id", getattr(node.func, "attr", None))
                if name in ("zip", "enumerate", "reversed", "range", "items", "keys", "values"):
                    self.assertIn((node.lineno, node.col_offset), [(one.lineno, one.col_offset) for one in spots], path.name)

    def test_errors_are_taken_by_name(self):
        for path in files():
            for node in defs(path, ast.ExceptHandler):
                self.assertIsInstance(node.type, ast.Name)
                self.assertNotIn(node.type.id, ("Exception", "TypeError"))


if __name__ == "__main__":
    unittest.main()
