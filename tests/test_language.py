"""The package's own files keep to the plain part of Python, as far as a look at their form shows."""

import ast
import builtins
import pathlib
import re
import unittest

PACKAGE = pathlib.Path(__file__).resolve().parent.parent / "stayprice"
FILES = sorted(PACKAGE.glob("*.py"))
BUILT_IN = (
    "len range enumerate zip min max sum abs sorted reversed int str bool list tuple dict set frozenset isinstance ord "
    "repr any all divmod Exception ValueError TypeError KeyError IndexError LookupError ZeroDivisionError "
    "ArithmeticError OverflowError RuntimeError NotImplementedError AttributeError StopIteration"
).split()
METHODS = (
    "append clear copy count endswith extend find get index insert isalnum isalpha isdigit islower isspace isupper "
    "items join keys ljust lower lstrip partition pop remove replace reverse rfind rjust rpartition rsplit rstrip "
    "setdefault split splitlines startswith strip update upper values zfill bit_length"
).split()
DUNDERS = "__init__ __eq__ __repr__ __str__ __len__".split()
NODES = (
    "Module FunctionDef ClassDef Return Assign AnnAssign AugAssign For While If Raise Try ImportFrom Expr Pass Break Continue "
    "BoolOp BinOp UnaryOp Lambda IfExp Dict Set ListComp Compare Call FormattedValue JoinedStr Constant Attribute "
    "Subscript Name List Tuple Slice Load Store And Or Add Sub Mult Mod Pow LShift RShift BitOr BitXor BitAnd "
    "FloorDiv Invert Not UAdd USub Eq NotEq Lt LtE Gt GtE Is IsNot In NotIn comprehension ExceptHandler arguments arg "
    "keyword alias"
).split()
WORDS = (
    "type typing typing_extensions enum Enum IntEnum StrEnum Flag IntFlag Generic Protocol ABC ABCMeta namedtuple "
    "NamedTuple TypedDict TYPE_CHECKING abstractmethod"
).split()

WALKED = "zip enumerate reversed range items keys values".split()
WALKERS = "list tuple dict sorted sum any all enumerate zip min max".split()
KEYWORDS = (
    ("sorted", "key"), ("sorted", "reverse"), ("min", "key"), ("min", "default"), ("max", "key"), ("max", "default"),
    ("sum", "start"), ("enumerate", "start"), ("zip", "strict"),
)


def trees():
    for path in FILES:
        yield path, ast.parse(path.read_text(encoding="utf-8"))


def walked():
    for path, tree in trees():
        for node in ast.walk(tree):
            yield f"{path.name}:{getattr(node, 'lineno', 0)}", node


def tops(tree):
    names = []
    for node in tree.body:
        if isinstance(node, (ast.FunctionDef, ast.ClassDef)):
            names.append(node.name)
        if isinstance(node, ast.Assign):
            names.extend(target.id for target in node.targets)
        if isinstance(node, ast.AnnAssign):
            names.append(node.target.id)
    return names


def drawn(tree):
    rows = [node for node in ast.walk(tree) if isinstance(node, ast.ImportFrom)]
    return [node for node in rows if node.module != "__future__"]


def called(node):
    return node.func.attr if isinstance(node.func, ast.Attribute) else getattr(node.func, "id", None)


def on_the_spot(tree):
    """The things that a loop, a comprehension or a walking call walks."""
    places = []
    for node in ast.walk(tree):
        if isinstance(node, (ast.For, ast.comprehension)):
            places.append(node.iter)
        if isinstance(node, ast.Call) and isinstance(node.func, ast.Name) and node.func.id in WALKERS:
            places.extend(node.args[:1])
        if isinstance(node, ast.Call) and called(node) == "join":
            places.extend(node.args)
    return places


class Texts(unittest.TestCase):
    def test_nothing_else_lies_in_the_package(self):
        for path in PACKAGE.iterdir():
            if path.name != "__pycache__":
                self.assertTrue(re.fullmatch(r"[a-z][a-z0-9_]*\.py|__(init|main)__\.py", path.name), path)
        self.assertIn("__init__.py", [path.name for path in FILES])

    def test_signs_and_sizes(self):
        for path in FILES:
            text = path.read_text(encoding="utf-8")
            self.assertTrue(all(sign == "\n" or " " <= sign <= "~" for sign in text), path)
            lines = text.split("\n")
            self.assertLessEqual(len(lines), 401, path)
            for line in lines:
                self.assertLessEqual(len(line), 120, path)

    def test_words_that_stand_nowhere(self):
        for path in FILES:
            text = path.read_text(encoding="utf-8")
            found = [word for word in re.findall(r"\w+", text) if word in WORDS]
            self.assertEqual(found, [], path)
            self.assertIsNone(re.search("dataclass|overload|contextmanager", text), path)


class Forms(unittest.TestCase):
    def test_kinds_of_rows_and_values(self):
        for place, node in walked():
            self.assertIn(type(node).__name__, NODES, place)
            if isinstance(node, ast.Constant):
                self.assertIn(type(node.value), (int, str, bool, type(None)), place)
                if isinstance(node.value, str):
                    self.assertNotIn("%", node.value, place)
            if isinstance(node, ast.Assign):
                self.assertEqual(len(node.targets), 1, place)
            if isinstance(node, (ast.For, ast.While)):
                self.assertEqual(node.orelse, [], place)
            if isinstance(node, ast.Try):
                self.assertEqual(node.finalbody, [], place)
            if isinstance(node, ast.ListComp):
                self.assertEqual(len(node.generators), 1, place)
                self.assertLessEqual(len(node.generators[0].ifs), 1, place)

    def test_functions_and_classes(self):
        for place, node in walked():
            if isinstance(node, ast.FunctionDef):
                self.assertEqual(node.decorator_list, [], place)
                self.assertLessEqual(node.end_lineno - node.lineno + 1, 40, place)
                given = node.args
                self.assertFalse(given.vararg or given.kwarg or given.kwonlyargs or given.posonlyargs, place)
            if isinstance(node, ast.ClassDef):
                self.assertEqual((node.decorator_list, node.keywords), ([], []), place)
                self.assertLessEqual(len(node.bases), 1, place)
                self.assertEqual([row for row in node.body if isinstance(row, ast.Assign)], [], place)

    def test_is_stands_beside_none_and_truths(self):
        for place, node in walked():
            if isinstance(node, ast.Compare) and any(isinstance(op, (ast.Is, ast.IsNot)) for op in node.ops):
                beside = [thing.value for thing in node.comparators if isinstance(thing, ast.Constant)]
                self.assertTrue(any(thing is None or isinstance(thing, bool) for thing in beside), place)


class Calls(unittest.TestCase):
    def test_walked_on_the_spot(self):
        for path, tree in trees():
            places = on_the_spot(tree)
            for node in ast.walk(tree):
                if isinstance(node, ast.Call) and called(node) in WALKED:
                    self.assertIn(node, places, f"{path.name}:{node.lineno}")

    def test_keywords(self):
        for place, node in walked():
            if isinstance(node, ast.Call):
                for keyword in node.keywords:
                    self.assertIn((called(node), keyword.arg), KEYWORDS, place)

    def test_f_strings_hold_plain_names(self):
        for place, node in walked():
            if isinstance(node, ast.FormattedValue):
                self.assertIsInstance(node.value, ast.Name, place)
                self.assertIsNone(node.format_spec, place)

    def test_errors_are_made_where_they_are_raised(self):
        for place, node in walked():
            if isinstance(node, ast.Raise):
                self.assertIsInstance(node.exc, ast.Call, place)


class Names(unittest.TestCase):
    def test_locals_are_not_called_like_classes_or_imports(self):
        for path, tree in trees():
            taken = [alias.name for node in drawn(tree) for alias in node.names]
            taken += [node.name for node in tree.body if isinstance(node, ast.ClassDef)]
            for node in ast.walk(tree):
                if isinstance(node, ast.arg):
                    self.assertNotIn(node.arg, taken, path)
                if isinstance(node, ast.Name) and isinstance(node.ctx, ast.Store):
                    self.assertNotIn(node.id, taken, path)

    def test_plain_names(self):
        for place, node in walked():
            names = [
                value for field in ("id", "name", "arg", "attr", "asname")
                for value in [getattr(node, field, None)] if isinstance(value, str)
            ]
            for name in names:
                self.assertTrue(name in DUNDERS or re.fullmatch(r"[A-Za-z]\w*", name), (place, name))

    def test_pythons_own_names(self):
        for place, node in walked():
            if isinstance(node, ast.Name) and hasattr(builtins, node.id):
                self.assertIn(node.id, BUILT_IN, place)
                self.assertIsInstance(node.ctx, ast.Load, place)
            if isinstance(node, (ast.arg, ast.FunctionDef, ast.ClassDef)):
                name = node.arg if isinstance(node, ast.arg) else node.name
                own = isinstance(node, ast.FunctionDef) and name in self.methods()
                self.assertTrue(own or not hasattr(builtins, name), (place, name))

    def test_methods(self):
        own = self.methods()
        for place, node in walked():
            if isinstance(node, ast.Call) and isinstance(node.func, ast.Attribute):
                self.assertTrue(node.func.attr in METHODS or node.func.attr in own, (place, node.func.attr))

    def test_no_name_is_a_method_and_a_value(self):
        own = self.methods()
        for place, node in walked():
            if isinstance(node, ast.Attribute) and isinstance(node.ctx, ast.Store):
                self.assertNotIn(node.attr, own, place)

    def methods(self):
        return [
            row.name for place, node in walked() if isinstance(node, ast.ClassDef)
            for row in node.body if isinstance(row, ast.FunctionDef)
        ] + ["__init__"]


class Imports(unittest.TestCase):
    def test_imports_stand_at_the_top_and_draw_from_the_defining_file(self):
        defined = {f"stayprice.{path.stem}": tops(tree) for path, tree in trees()}
        for path, tree in trees():
            for node in drawn(tree):
                self.assertIn(node, tree.body, path)
                self.assertEqual(node.level, 0, path)
                for alias in node.names:
                    self.assertIn(alias.name, defined[node.module], path)

    def test_no_two_files_draw_from_one_another(self):
        draws = {path.stem: [node.module.split(".")[1] for node in drawn(tree)] for path, tree in trees()}
        for name in draws:
            seen = list(draws[name])
            for other in seen:
                seen.extend(more for more in draws[other] if more not in seen)
            self.assertNotIn(name, seen)

    def test_each_name_is_bound_once(self):
        for path, tree in trees():
            names = tops(tree) + [alias.name for node in drawn(tree) for alias in node.names]
            self.assertEqual(sorted(names), sorted(set(names)), path)


if __name__ == "__main__":
    unittest.main()
