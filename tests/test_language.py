"""What can be seen of the package's form at a glance: files, signs, sizes, imports, names and kinds of rows.

It sees a part of the language rules alone; the numbers at the tests (L10 ..) are those of the rules.
"""

import ast
import pathlib
import re
import unittest

PACKAGE = pathlib.Path(__file__).resolve().parent.parent / "blockdeal"
OWN_NAMES = set(
    "len range enumerate zip min max sum abs sorted reversed int str bool bytes list tuple dict set isinstance ord "
    "repr any all divmod Exception ValueError TypeError KeyError IndexError LookupError ZeroDivisionError "
    "ArithmeticError OverflowError RuntimeError NotImplementedError AttributeError StopIteration".split()
)
OUTSIDE = (
    ast.With, ast.Match, ast.Global, ast.Nonlocal, ast.Yield, ast.YieldFrom, ast.AsyncFunctionDef, ast.AsyncFor,
    ast.AsyncWith, ast.Await, ast.GeneratorExp, ast.NamedExpr, ast.Div, ast.MatMult, ast.Import,
)
UNUSED_WORDS = re.compile(
    r"\b(type|typing|typing_extensions|enum|Enum|IntEnum|StrEnum|Flag|IntFlag|Generic|Protocol|ABC|ABCMeta|namedtuple|"
    r"NamedTuple|TypedDict|TYPE_CHECKING|abstractmethod)\b|dataclass|overload|contextmanager"
)
UNUSED_NAMES = set(
    "register mro elements open input version_info with_traceback add_note breakpoint compile delattr dir eval exec "
    "exit getattr globals hasattr help id locals os quit setattr super sys vars chr frozenset hash map next round "
    "filter format iter object pow print slice property".split()
)
METHODS = set(
    "append clear copy count endswith extend find get index insert isalnum isalpha isdigit islower isspace isupper "
    "items join keys ljust lower lstrip partition pop remove replace reverse rfind rjust rpartition rsplit rstrip "
    "setdefault split splitlines startswith strip update upper values zfill bit_length sort add discard "
    "title capitalize swapcase casefold center expandtabs removeprefix removesuffix rindex isascii isdecimal isnumeric "
    "istitle isidentifier isprintable translate maketrans".split()
)


def sources():
    """Each file of the package: its name, its text and its tree."""
    for path in sorted(PACKAGE.glob("*.py")):
        text = path.read_bytes().decode("utf-8")
        yield path.name, text, ast.parse(text)


def nodes(*kinds):
    """Each part of some kinds in the package, with the file's name and row to tell it by."""
    for name, text, tree in sources():
        for node in ast.walk(tree):
            if isinstance(node, kinds):
                yield f"{name}:{getattr(node, 'lineno', 0)}", node


def bound_names(tree):
    """Each name that a file gives: defs, classes, parameters, imports and what is assigned."""
    found = []
    for node in ast.walk(tree):
        if isinstance(node, (ast.FunctionDef, ast.ClassDef)):
            found.append(node.name)
        if isinstance(node, ast.arg):
            found.append(node.arg)
        if isinstance(node, ast.alias):
            found.append(node.asname or node.name)
        if isinstance(node, ast.Name) and isinstance(node.ctx, ast.Store):
            found.append(node.id)
        if isinstance(node, ast.ExceptHandler) and node.name:
            found.append(node.name)
    return found


def top_names(tree):
    """The names that stand at a file's top."""
    found = [node.name for node in tree.body if isinstance(node, (ast.FunctionDef, ast.ClassDef))]
    return found + [target.id for node in tree.body if isinstance(node, ast.Assign) for target in node.targets]


class Files(unittest.TestCase):
    def test_nothing_but_source_files(self):
        names = sorted(path.name for path in PACKAGE.iterdir() if path.name != "__pycache__")
        self.assertIn("__init__.py", names)
        for name in names:
            self.assertRegex(name, r"\A([a-z][a-z0-9_]*|__init__)\.py\Z", "L1, L14")

    def test_signs_and_sizes(self):
        for name, text, tree in sources():
            self.assertRegex(text, r"\A[ -~\n]*\Z", f"{name}: L14")
            self.assertIsNone(UNUSED_WORDS.search(text), f"{name}: L17")
            rows = text.split("\n")
            self.assertLessEqual(len(rows), 400, f"{name}: L10")
            self.assertLessEqual(max(map(len, rows)), 120, f"{name}: L10")

    def test_defs_are_short(self):
        for where, node in nodes(ast.FunctionDef):
            self.assertLessEqual(node.end_lineno - node.lineno + 1, 40, f"{where}: L10")

    def test_imports(self):
        tops = {name.removesuffix(".py"): top_names(tree) for name, text, tree in sources()}
        drawn = {}
        for name, text, tree in sources():
            for node in ast.walk(tree):
                if isinstance(node, ast.ImportFrom) and node.module != "__future__":
                    self.assertIn(node, tree.body, f"{name}: L2")
                    package, module = node.module.split(".")
                    self.assertEqual((package, node.level), ("blockdeal", 0), f"{name}: L2")
                    drawn.setdefault(name.removesuffix(".py"), set()).add(module)
                    for alias in node.names:
                        self.assertIn(alias.name, tops[module], f"{name}: L16")
        for module in tops:
            seen, ahead = set(), set(drawn.get(module, ()))
            while ahead:
                seen |= ahead
                ahead = {other for one in ahead for other in drawn.get(one, ())} - seen
            self.assertNotIn(module, seen, "L16")


class Rows(unittest.TestCase):
    def test_the_top(self):
        kinds = (ast.ImportFrom, ast.FunctionDef, ast.ClassDef, ast.Assign)
        for name, text, tree in sources():
            for node in tree.body[1:] if ast.get_docstring(tree) else tree.body:
                self.assertIsInstance(node, kinds, f"{name}: L3")
            tops = top_names(tree)
            self.assertEqual(len(tops), len(set(tops)), f"{name}: L15")

    def test_kinds_of_rows_and_values(self):
        for where, node in nodes(*OUTSIDE):
            self.fail(f"{where}: {node.__class__.__name__} is outside L6, L7")
        for where, node in nodes(ast.Constant):
            self.assertNotIsInstance(node.value, (float, complex), f"{where}: L7")
            if isinstance(node.value, str):
                self.assertNotIn("%", node.value, f"{where}: L27")
        for where, node in nodes(ast.FunctionDef, ast.ClassDef):
            self.assertEqual(node.decorator_list, [], f"{where}: L4, L5")
        for where, node in nodes(ast.arguments):
            self.assertFalse(node.vararg or node.kwarg or node.posonlyargs, f"{where}: L4")
        for where, node in nodes(ast.For, ast.While):
            self.assertEqual(node.orelse, [], f"{where}: L6")

    def test_errors_are_made_on_the_spot(self):
        classes = {node.name for where, node in nodes(ast.ClassDef)}
        for where, node in nodes(ast.Raise):
            if node.exc is not None:
                self.assertIsInstance(node.exc, ast.Call, f"{where}: L19")
                self.assertIn(ast.unparse(node.exc.func), classes | OWN_NAMES, f"{where}: L19")

    def test_classes_hold_methods_alone(self):
        for where, node in nodes(ast.ClassDef):
            self.assertLessEqual(len(node.bases), 1, f"{where}: L5")
            for row in node.body[1:] if ast.get_docstring(node) else node.body:
                self.assertIsInstance(row, ast.FunctionDef, f"{where}: L5")

    def test_no_name_is_a_method_and_a_value(self):
        methods = [row.name for where, node in nodes(ast.ClassDef) for row in node.body if isinstance(row, ast.FunctionDef)]
        values = {node.attr for where, node in nodes(ast.Attribute) if isinstance(node.ctx, ast.Store)}
        self.assertEqual(values & set(methods), set(), "L18")
        parts = list(nodes(ast.Call, ast.Attribute))
        called = [node.func for where, node in parts if isinstance(node, ast.Call)]
        for where, node in parts:
            if isinstance(node, ast.Attribute) and isinstance(node.ctx, ast.Load) and node not in called:
                self.assertIn(node.attr, values, f"{where}: L18, L25")

    def test_walked_at_once(self):
        for where, node in nodes(ast.Assign, ast.Return):
            if isinstance(node.value, ast.Call):
                called = ast.unparse(node.value.func).split(".")[-1]
                self.assertNotIn(called, ("range", "zip", "enumerate", "reversed", "items", "keys", "values"), f"{where}: L23")

    def test_powers_are_written(self):
        for where, node in nodes(ast.BinOp):
            if isinstance(node.op, ast.Pow):
                self.assertIsInstance(node.right, ast.Constant, f"{where}: L27")

    def test_is_stands_beside_none_and_truths(self):
        for where, node in nodes(ast.Compare):
            for sign, side in zip(node.ops, node.comparators):
                if isinstance(sign, (ast.Is, ast.IsNot)):
                    self.assertIn(ast.unparse(side), ("None", "True", "False"), f"{where}: L20")


class Names(unittest.TestCase):
    def test_bound_names(self):
        for name, text, tree in sources():
            for bound in bound_names(tree):
                if not re.fullmatch("__(init|eq|repr|str|len)__", bound):
                    self.assertRegex(bound, r"\A[A-Za-z][A-Za-z0-9_]*\Z", f"{name}: L12")
                self.assertNotIn(bound, OWN_NAMES | UNUSED_NAMES, f"{name}: L8, L15, L17")

    def test_used_names(self):
        for name, text, tree in sources():
            bound = set(bound_names(tree))
            for node in ast.walk(tree):
                if isinstance(node, ast.Name):
                    self.assertIn(node.id, bound | OWN_NAMES, f"{name}:{node.lineno}: L8")

    def test_methods(self):
        own = {node.name for where, node in nodes(ast.FunctionDef)}
        for where, node in nodes(ast.Call):
            if isinstance(node.func, ast.Attribute):
                self.assertIn(node.func.attr, METHODS | own, f"{where}: L25")


if __name__ == "__main__":
    unittest.main()
