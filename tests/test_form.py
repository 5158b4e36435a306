"""The form of the package's files: some of the rules, those that are quickly seen; the rest is kept by reading."""

import ast
import builtins
import os
import re
import unittest

FOLDER = os.path.join(os.path.dirname(os.path.dirname(os.path.abspath(__file__))), "bracketrows")

FREE_BUILTINS = set(
    "len range enumerate zip min max sum abs sorted reversed int str bool bytes list tuple dict set frozenset"
    " isinstance ord repr any all divmod Exception ValueError TypeError KeyError IndexError LookupError"
    " ZeroDivisionError ArithmeticError OverflowError RuntimeError NotImplementedError AttributeError"
    " StopIteration".split())

NO_NODES = (
    ast.With, ast.Match, ast.Global, ast.Nonlocal, ast.Yield, ast.YieldFrom, ast.Await, ast.AsyncFunctionDef,
    ast.AsyncFor, ast.AsyncWith, ast.GeneratorExp, ast.NamedExpr, ast.Div, ast.Import, ast.TryStar,
)

NO_WORDS = re.compile(
    r"\b(type|typing|typing_extensions|enum|Enum|IntEnum|StrEnum|Flag|IntFlag|Generic|Protocol|ABC|ABCMeta"
    r"|namedtuple|NamedTuple|TypedDict|TYPE_CHECKING|abstractmethod)\b|dataclass|overload|contextmanager")


FREE_METHODS = set(
    "append clear copy count endswith extend find get index insert isalnum isalpha isdigit islower isspace isupper"
    " items join keys ljust lower lstrip partition pop remove replace reverse rfind rjust rpartition rsplit rstrip"
    " setdefault split splitlines startswith strip update upper values zfill bit_length".split())

TOP_NODES = (ast.ImportFrom, ast.FunctionDef, ast.ClassDef, ast.Assign)

PLAIN_NODES = (ast.Constant, ast.Tuple, ast.List, ast.Dict, ast.Name, ast.Load)

NO_NAMES = set(
    "register mro elements open input version_info with_traceback add_note attrgetter breakpoint builtins compile"
    " copyright credits delattr dir eval exec exit gc getattr globals hasattr help id importlib license locals"
    " methodcaller os quit setattr super type vars sys format format_map".split())


def package_files():
    for name in sorted(os.listdir(FOLDER)):
        if name != "__pycache__":
            with open(os.path.join(FOLDER, name), encoding="utf-8") as file:
                yield name, file.read()


def bound_names(tree):
    """Names that a file gives: parameters, targets, defs and classes."""
    for node in ast.walk(tree):
        if isinstance(node, ast.arg):
            yield node.arg
        elif isinstance(node, ast.Name) and not isinstance(node.ctx, ast.Load):
            yield node.id
        elif isinstance(node, (ast.FunctionDef, ast.ClassDef)):
            yield node.name


class Form(unittest.TestCase):
    def test_files(self):
        names = [name for name, text in package_files()]
        self.assertIn("__init__.py", names)
        for name in names:
            self.assertRegex(name, r"^[a-z_0-9]+\.py$")

    def test_sizes_and_signs(self):
        for name, text in package_files():
            rows = text.split("\n")
            self.assertLessEqual(len(rows), 400, name)
            for at, row in enumerate(rows, start=1):
                self.assertLessEqual(len(row), 120, (name, at))
                self.assertRegex(row, r"^[ -~]*$", (name, at))
                self.assertIsNone(NO_WORDS.search(row), (name, at))

    def test_defs_are_short(self):
        for name, text in package_files():
            for node in ast.walk(ast.parse(text)):
                if isinstance(node, ast.FunctionDef):
                    self.assertLessEqual(node.end_lineno - node.lineno + 1, 40, (name, node.name))
                    self.assertFalse(node.decorator_list, (name, node.name))
                    self.assertFalse(node.args.vararg or node.args.kwarg or node.args.posonlyargs, (name, node.name))

    def test_no_statement_or_expression_that_is_out(self):
        for name, text in package_files():
            for node in ast.walk(ast.parse(text)):
                self.assertNotIsInstance(node, NO_NODES, (name, getattr(node, "lineno", None)))
                if isinstance(node, (ast.For, ast.While)):
                    self.assertFalse(node.orelse, (name, node.lineno))
                if isinstance(node, ast.Constant):
                    self.assertNotIsInstance(node.value, (float, complex), (name, node.lineno))
                    if isinstance(node.value, str):
                        self.assertNotIn("%", node.value, (name, node.lineno))
                if isinstance(node, ast.Compare):
                    for sign, right in zip(node.ops, node.comparators):
                        if isinstance(sign, (ast.Is, ast.IsNot)):
                            self.assertIsInstance(right, ast.Constant, (name, node.lineno))

    def test_imports(self):
        for name, text in package_files():
            for node in ast.walk(ast.parse(text)):
                if isinstance(node, ast.ImportFrom):
                    self.assertEqual(node.level, 0, (name, node.lineno))
                    self.assertTrue(node.module.startswith("bracketrows."), (name, node.lineno))
                    self.assertEqual(node.col_offset, 0, (name, node.lineno))

    def test_names(self):
        for name, text in package_files():
            tree = ast.parse(text)
            for given in bound_names(tree):
                if given not in ("__init__", "__eq__", "__repr__", "__str__", "__len__"):
                    self.assertRegex(given, r"^[A-Za-z][A-Za-z0-9_]*$", name)
            for node in ast.walk(tree):
                if isinstance(node, ast.Name) and hasattr(builtins, node.id):
                    self.assertIn(node.id, FREE_BUILTINS, (name, node.lineno))
                    self.assertIsInstance(node.ctx, ast.Load, (name, node.lineno))

    def test_no_parameter_or_local_is_called_like_an_import_or_a_name_of_pythons(self):
        for name, text in package_files():
            tree = ast.parse(text)
            taken = {one.name for node in ast.walk(tree) if isinstance(node, ast.ImportFrom) for one in node.names}
            taken |= {node.name for node in ast.walk(tree) if isinstance(node, ast.ClassDef)}
            for node in ast.walk(tree):
                if isinstance(node, ast.FunctionDef):
                    for given in bound_names(ast.Module(body=[node.args, *node.body], type_ignores=[])):
                        self.assertNotIn(given, taken, (name, node.name))
                        self.assertFalse(hasattr(builtins, given), (name, node.name, given))

    def test_what_is_walked_at_once_is_not_kept(self):
        for name, text in package_files():
            for node in ast.walk(ast.parse(text)):
                if isinstance(node, (ast.Assign, ast.AugAssign, ast.Return)) and isinstance(node.value, ast.Call):
                    called = node.value.func
                    word = called.id if isinstance(called, ast.Name) else getattr(called, "attr", "")
                    self.assertNotIn(
                        word, ("zip", "enumerate", "reversed", "range", "items", "keys", "values"), (name, node.lineno))

    def test_imports_are_drawn_from_where_they_are_made_and_never_round(self):
        made, drawn = {}, {}
        for name, text in package_files():
            module = "bracketrows." + name[:-3]
            tree = ast.parse(text)
            made[module] = {node.name for node in tree.body if isinstance(node, (ast.FunctionDef, ast.ClassDef))}
            made[module] |= {one.id for node in tree.body if isinstance(node, ast.Assign) for one in node.targets}
            drawn[module] = {
                node.module: [one.name for one in node.names] for node in tree.body if isinstance(node, ast.ImportFrom)}
        for module, sources in drawn.items():
            for source, names in sources.items():
                self.assertLessEqual(set(names), made[source], (module, source))
        while drawn:
            free = [module for module, sources in drawn.items() if not set(sources) & set(drawn)]
            self.assertTrue(free, sorted(drawn))
            for module in free:
                del drawn[module]

    def test_what_is_drawn_is_used(self):
        for name, text in package_files():
            tree = ast.parse(text)
            used = {node.id for node in ast.walk(tree) if isinstance(node, ast.Name)}
            for node in ast.walk(tree):
                if isinstance(node, ast.ImportFrom):
                    self.assertLessEqual({one.name for one in node.names}, used, name)

    def test_methods_and_values_bear_names_of_their_own(self):
        methods, values = set(), set()
        for name, text in package_files():
            for node in ast.walk(ast.parse(text)):
                if isinstance(node, ast.ClassDef):
                    methods |= {one.name for one in node.body if isinstance(one, ast.FunctionDef)}
                if isinstance(node, ast.Attribute) and isinstance(node.ctx, ast.Store):
                    values.add(node.attr)
        self.assertFalse(methods & values)
        for kind in (str, int, list, dict, set, bytes, tuple):
            for word in (methods | values) - {"__init__"}:
                self.assertFalse(hasattr(kind, word), (kind, word))

    def test_the_top_of_a_file(self):
        for name, text in package_files():
            tree = ast.parse(text)
            self.assertTrue(ast.get_docstring(tree), name)
            names = []
            for node in tree.body[1:]:
                self.assertIsInstance(node, TOP_NODES, (name, node.lineno))
                if isinstance(node, ast.ImportFrom):
                    names += [one.asname or one.name for one in node.names]
                elif isinstance(node, ast.Assign):
                    self.check_top_value(name, node)
                    names += [one.id for one in node.targets]
                else:
                    names.append(node.name)
            self.assertEqual(len(names), len(set(names)), name)

    def check_top_value(self, name, node):
        defs = set(re.findall(r"^def (\w+)", self.text_above(name, node.lineno), re.M))
        for one in ast.walk(node.value):
            self.assertIsInstance(one, PLAIN_NODES, (name, node.lineno))
            if isinstance(one, ast.Name):
                self.assertIn(one.id, defs, (name, node.lineno))
            if isinstance(one, (ast.List, ast.Dict)):
                self.assertIs(one, node.value, (name, node.lineno))

    def text_above(self, name, row):
        return "\n".join(dict(package_files())[name].split("\n")[:row])

    def test_classes_hold_methods_alone(self):
        for name, text in package_files():
            for node in ast.walk(ast.parse(text)):
                if isinstance(node, ast.ClassDef):
                    self.assertFalse(node.decorator_list or node.keywords or len(node.bases) > 1, (name, node.name))
                    for one in node.body[1:]:
                        self.assertIsInstance(one, ast.FunctionDef, (name, node.name))
                    methods = [one.name for one in node.body[1:]]
                    self.assertEqual(len(methods), len(set(methods)), (name, node.name))

    def test_methods_and_values_that_are_asked_are_there(self):
        methods, values, asked, called = set(), set(), set(), set()
        for name, text in package_files():
            tree = ast.parse(text)
            calls = {id(node.func) for node in ast.walk(tree) if isinstance(node, ast.Call)}
            for node in ast.walk(tree):
                if isinstance(node, ast.ClassDef):
                    methods |= {one.name for one in node.body if isinstance(one, ast.FunctionDef)}
                elif isinstance(node, ast.Attribute) and isinstance(node.ctx, ast.Store):
                    values.add(node.attr)
                elif isinstance(node, ast.Attribute):
                    (called if id(node) in calls else asked).add(node.attr)
        self.assertLessEqual(called, FREE_METHODS | methods)
        self.assertLessEqual(asked, values)

    def test_no_star_no_lambda_no_keyword_that_is_not_asked_for(self):
        for name, text in package_files():
            for node in ast.walk(ast.parse(text)):
                self.assertNotIsInstance(node, (ast.Starred, ast.Lambda, ast.Try, ast.Set), name)
                if isinstance(node, ast.Call):
                    self.assertFalse(node.keywords, (name, node.lineno))

    def test_sets_stand_straight_within_sorted(self):
        for name, text in package_files():
            tree = ast.parse(text)
            within = {
                id(node.args[0]) for node in ast.walk(tree)
                if isinstance(node, ast.Call) and isinstance(node.func, ast.Name) and node.func.id in ("sorted", "len")}
            for node in ast.walk(tree):
                is_set = isinstance(node, ast.Call) and isinstance(node.func, ast.Name) and node.func.id == "set"
                if is_set or isinstance(node, ast.SetComp):
                    self.assertIn(id(node), within, (name, node.lineno))

    def test_names_that_are_not_used(self):
        for name, text in package_files():
            tree = ast.parse(text)
            used = set(bound_names(tree)) | {node.id for node in ast.walk(tree) if isinstance(node, ast.Name)}
            used |= {node.attr for node in ast.walk(tree) if isinstance(node, ast.Attribute)}
            self.assertFalse(used & NO_NAMES, name)

    def test_what_a_file_keeps_at_its_top_is_only_read(self):
        for name, text in package_files():
            tree = ast.parse(text)
            kept = {
                node.targets[0].id for node in tree.body
                if isinstance(node, ast.Assign) and isinstance(node.value, (ast.List, ast.Dict))}
            reads = {
                id(one) for node in ast.walk(tree) for one in (
                    [node.value] if isinstance(node, ast.Subscript) and isinstance(node.ctx, ast.Load)
                    else node.comparators if isinstance(node, ast.Compare) else [])}
            for node in ast.walk(tree):
                if isinstance(node, ast.Name) and node.id in kept and isinstance(node.ctx, ast.Load):
                    self.assertIn(id(node), reads, (name, node.lineno))


if __name__ == "__main__":
    unittest.main()
