"""The package keeps to the rules of shared/LANGUAGE.md that can be read off its files."""

import ast
import builtins
import re
import unittest
import warnings
from pathlib import Path

PACKAGE = Path(__file__).resolve().parent.parent / "turncouple"
FILES = sorted(PACKAGE.glob("*.py"))
ALLOWED_BUILTINS = set(
    "len range enumerate zip min max sum abs sorted reversed int str bool bytes list tuple dict set frozenset isinstance"
    " ord repr any all divmod iter next property staticmethod classmethod super Exception ValueError TypeError KeyError"
    " IndexError LookupError ZeroDivisionError ArithmeticError OverflowError RuntimeError NotImplementedError"
    " AttributeError StopIteration NotImplemented".split()
)
ALLOWED_DUNDER = set("__init__ __eq__ __repr__ __str__ __len__ __enter__ __exit__ __call__ __iter__".split())
ALLOWED_METHODS = set(
    "append clear copy count endswith extend find get index insert isalnum isalpha isdigit islower isspace isupper items"
    " join keys ljust lower lstrip partition pop remove replace reverse rfind rjust rpartition rsplit rstrip setdefault"
    " split splitlines startswith strip update upper values zfill bit_length title capitalize swapcase casefold center"
    " expandtabs removeprefix removesuffix rindex isascii isdecimal isnumeric istitle isidentifier isprintable add"
    " discard sort".split()
)
BARRED_WORDS = re.compile(
    r"\b(type|typing|typing_extensions|enum|Enum|IntEnum|StrEnum|Flag|IntFlag|Generic|Protocol|ABC|ABCMeta|namedtuple"
    r"|NamedTuple|TypedDict|TYPE_CHECKING|abstractmethod)\b|dataclass|overload|contextmanager"
)
BARRED_NAMES = set(
    "register mro elements open input version_info with_traceback add_note attrgetter breakpoint builtins compile"
    " copyright credits delattr dir eval exec exit gc getattr globals hasattr help id importlib license locals"
    " methodcaller os quit setattr super vars sys".split()
)


def trees():
    return [(path, ast.parse(path.read_text())) for path in FILES]


def bound_names(tree):
    """Every name that a file gives a meaning, module-level ones and local ones."""
    found = []
    for node in ast.walk(tree):
        if isinstance(node, (ast.FunctionDef, ast.ClassDef)):
            found.append(node.name)
        elif isinstance(node, ast.arg):
            found.append(node.arg)
        elif isinstance(node, ast.Name) and isinstance(node.ctx, ast.Store):
            found.append(node.id)
        elif isinstance(node, ast.alias):
            found.append(node.asname or node.name)
    return found


class Layout(unittest.TestCase):
    def test_the_folder_has_python_files_alone(self):
        for path in PACKAGE.iterdir():
            if path.name != "__pycache__":
                self.assertRegex(path.name, r"^[a-z_0-9]+\.py$")
        self.assertTrue((PACKAGE / "__init__.py").is_file())

    def test_sizes_and_characters(self):
        for path in FILES:
            text = path.read_text()
            lines = text.split("\n")
            self.assertLessEqual(len(lines), 400, path)
            self.assertLessEqual(max(len(line) for line in lines), 120, path)
            self.assertFalse([sign for sign in text if sign != "\n" and not " " <= sign <= "~"], path)

    def test_functions_have_at_most_forty_lines(self):
        for path, tree in trees():
            for node in ast.walk(tree):
                if isinstance(node, ast.FunctionDef):
                    self.assertLessEqual(node.end_lineno - node.lineno + 1, 40, (path, node.name))

    def test_no_warning(self):
        for path in FILES:
            with warnings.catch_warnings():
                warnings.simplefilter("error")
                compile(path.read_text(), str(path), "exec")


class Words(unittest.TestCase):
    def test_barred_words(self):
        for path in FILES:
            self.assertIsNone(BARRED_WORDS.search(path.read_text()), path)

    def test_bound_names(self):
        for path, tree in trees():
            for name in bound_names(tree):
                if name not in ALLOWED_DUNDER:
                    self.assertRegex(name, r"^[A-Za-z][A-Za-z0-9_]*$", path)
                    self.assertNotIn(name, BARRED_NAMES, path)
                    self.assertFalse(hasattr(builtins, name), (path, name))

    def test_no_local_name_is_that_of_something_at_module_level(self):
        for path, tree in trees():
            outer = bound_names(ast.Module([node for node in tree.body if isinstance(node, ast.ImportFrom)], []))
            outer += [node.name for node in tree.body if isinstance(node, (ast.FunctionDef, ast.ClassDef))]
            self.assertEqual(len(outer), len(set(outer)), path)
            for node in ast.walk(tree):
                if isinstance(node, ast.FunctionDef):
                    for name in bound_names(ast.Module(node.body, [])) + bound_names(node.args):
                        self.assertNotIn(name, outer, (path, node.name))

    def test_builtins(self):
        for path, tree in trees():
            bound = set(bound_names(tree))
            for node in ast.walk(tree):
                if isinstance(node, ast.Name) and node.id not in bound:
                    self.assertIn(node.id, ALLOWED_BUILTINS, path)

    def test_strings(self):
        for path, tree in trees():
            for node in ast.walk(tree):
                if isinstance(node, ast.Constant) and isinstance(node.value, str):
                    self.assertNotIn("%", node.value, path)


class Statements(unittest.TestCase):
    def test_imports(self):
        for path, tree in trees():
            for node in ast.walk(tree):
                self.assertNotIsInstance(node, ast.Import, path)
                if isinstance(node, ast.ImportFrom):
                    self.assertIn(node, tree.body)
                    self.assertEqual(node.level, 0)
                    self.assertRegex(node.module, r"^turncouple\.[a-z]+$")
                    source = ast.parse((PACKAGE / (node.module.split(".")[1] + ".py")).read_text())
                    for alias in node.names:
                        self.assertIn(alias.name, bound_names(ast.Module(source.body, [])), path)

    def test_no_import_goes_in_a_circle(self):
        after = {}
        for path, tree in trees():
            named = [node.module.split(".")[1] for node in ast.walk(tree) if isinstance(node, ast.ImportFrom)]
            after[path.stem] = set(named)
        while after:
            free = [stem for stem, named in after.items() if not named & set(after)]
            self.assertTrue(free, after)
            for stem in free:
                del after[stem]

    def test_kinds_of_statements_and_signs(self):
        barred = (ast.Global, ast.AsyncFunctionDef, ast.Await, ast.Div, ast.MatMult)
        for path, tree in trees():
            for node in ast.walk(tree):
                self.assertNotIsInstance(node, barred, (path, getattr(node, "lineno", None)))
                if isinstance(node, ast.Constant):
                    self.assertNotIsInstance(node.value, (float, complex), path)
                if isinstance(node, ast.BinOp) and isinstance(node.op, ast.Pow):
                    self.assertIsInstance(node.right, ast.Constant, path)
                    self.assertTrue(0 <= node.right.value <= 64, path)
                if isinstance(node, ast.Compare):
                    for sign, right in zip(node.ops, node.comparators):
                        if isinstance(sign, (ast.Is, ast.IsNot)):
                            self.assertIn(getattr(right, "value", 0), (None, True, False), path)

    def test_no_generator_beside_a_class_that_compares(self):
        for path, tree in trees():
            for node in ast.walk(tree):
                if isinstance(node, ast.Call) and isinstance(node.func, ast.Name):
                    if node.func.id in ("any", "all", "min", "max", "sum", "sorted"):
                        self.assertFalse([arg for arg in node.args if isinstance(arg, ast.GeneratorExp)], path)

    def test_methods_that_are_called(self):
        own = {node.name for path, tree in trees() for node in ast.walk(tree) if isinstance(node, ast.FunctionDef)}
        for path, tree in trees():
            for node in ast.walk(tree):
                if isinstance(node, ast.Call) and isinstance(node.func, ast.Attribute):
                    self.assertIn(node.func.attr, ALLOWED_METHODS | own | {"__init__"}, (path, node.lineno))

    def test_what_is_gone_through_at_once_is_not_kept(self):
        takers = ("list", "tuple", "dict", "sorted", "sum", "any", "all", "enumerate", "zip", "bytes", "min", "max")
        for path, tree in trees():
            allowed = []
            for node in ast.walk(tree):
                if isinstance(node, (ast.For, ast.comprehension)):
                    allowed.append(node.iter)
                if isinstance(node, ast.Call) and isinstance(node.func, ast.Name) and node.args:
                    if node.func.id in takers:
                        allowed.append(node.args[0])
                    if node.func.id == "reversed" and ast.unparse(node.args[0]).startswith("range("):
                        allowed.append(node.args[0])
            for node in ast.walk(tree):
                if isinstance(node, ast.Call):
                    name = getattr(node.func, "id", getattr(node.func, "attr", None))
                    if name in ("zip", "enumerate", "reversed", "range", "items", "keys", "values"):
                        self.assertIn(node, allowed, (path, node.lineno))

    def test_stars_in_calls(self):
        for path, tree in trees():
            for node in ast.walk(tree):
                if isinstance(node, ast.Call):
                    for arg in node.args:
                        if isinstance(arg, ast.Starred):
                            self.assertIsInstance(arg.value, ast.Name, (path, node.lineno))

    def test_each_raise_makes_its_refusal_on_the_spot(self):
        for path, tree in trees():
            for node in ast.walk(tree):
                if isinstance(node, ast.Raise):
                    self.assertIsInstance(node.exc, ast.Call, (path, node.lineno))
                    self.assertIsInstance(node.exc.func, ast.Name, (path, node.lineno))


def attribute_targets(tree):
    """The names of all attributes that a file assigns."""
    return {node.attr for node in ast.walk(tree) if isinstance(node, ast.Attribute) and isinstance(node.ctx, ast.Store)}


def fields_of(tree):
    """The names of all attributes that a file reads, but those of methods that it calls."""
    called = [node.func for node in ast.walk(tree) if isinstance(node, ast.Call)]
    every = [node for node in ast.walk(tree) if isinstance(node, ast.Attribute) and isinstance(node.ctx, ast.Load)]
    return {node.attr for node in every if node not in called}


class Classes(unittest.TestCase):
    def test_no_name_is_a_method_here_and_an_attribute_there(self):
        methods, fields, read = set(), set(), set()
        for path, tree in trees():
            for node in tree.body:
                if isinstance(node, ast.ClassDef):
                    methods |= {part.name for part in node.body if isinstance(part, ast.FunctionDef)}
            fields |= attribute_targets(tree)
            read |= fields_of(tree)
        self.assertEqual(methods & fields, set())
        self.assertEqual(read - fields, {"__init__"} & read)
        barred = "items keys values pop update append clear extend insert remove reverse setdefault sort args encode decode"
        self.assertEqual(fields & set(barred.split()), set())

    def test_double_underscore_methods(self):
        for path, tree in trees():
            for node in ast.walk(tree):
                if isinstance(node, ast.FunctionDef) and node.name in ("__eq__", "__str__", "__repr__"):
                    self.assertEqual([type(part) for part in node.body], [ast.Return], path)
                if isinstance(node, ast.FunctionDef) and node.name == "__init__":
                    self.assertFalse([part for part in ast.walk(node) if isinstance(part, ast.Return)], path)
                if isinstance(node, ast.FunctionDef) and node.name.startswith("__"):
                    self.assertIn(node.name, ALLOWED_DUNDER)

    def test_decorators_and_bases(self):
        for path, tree in trees():
            for node in ast.walk(tree):
                if isinstance(node, (ast.FunctionDef, ast.ClassDef)):
                    self.assertEqual(node.decorator_list, [], path)
                if isinstance(node, ast.ClassDef):
                    self.assertIn(node, tree.body)
                    self.assertLessEqual(len(node.bases), 1)


class Values(unittest.TestCase):
    def test_module_level(self):
        plain = (ast.Constant, ast.Tuple, ast.List, ast.Dict, ast.BinOp, ast.Pow, ast.Load, ast.UnaryOp, ast.USub)
        for path, tree in trees():
            names = []
            for at, node in enumerate(tree.body):
                if isinstance(node, ast.Assign):
                    self.assertEqual(len(node.targets), 1)
                    names.append(node.targets[0].id)
                    for part in ast.walk(node.value):
                        self.assertIsInstance(part, plain, (path, node.lineno))
                elif isinstance(node, ast.Expr):
                    self.assertEqual(at, 0, path)
                    self.assertIsInstance(node.value.value, str, path)
                else:
                    self.assertIsInstance(node, (ast.ImportFrom, ast.FunctionDef, ast.ClassDef), path)
            self.assertEqual(len(names), len(set(names)), path)

    def test_lists_and_dicts_at_module_level_are_only_read(self):
        for path, tree in trees():
            for node in tree.body:
                if isinstance(node, ast.Assign) and isinstance(node.value, (ast.List, ast.Dict)):
                    name = node.targets[0].id
                    inner = [part for part in ast.walk(node.value) if isinstance(part, (ast.List, ast.Dict))]
                    self.assertEqual(inner, [node.value])
                    allowed = []
                    for part in ast.walk(tree):
                        if isinstance(part, ast.Subscript) and isinstance(part.ctx, ast.Load):
                            allowed.append(part.value)
                        if isinstance(part, ast.Compare):
                            allowed += part.comparators
                    for part in ast.walk(tree):
                        if isinstance(part, ast.Name) and part.id == name and isinstance(part.ctx, ast.Load):
                            self.assertIn(part, allowed, (path, part.lineno))

    def test_sets_stand_where_they_may(self):
        for path, tree in trees():
            allowed = []
            for node in ast.walk(tree):
                if isinstance(node, ast.Call) and isinstance(node.func, ast.Name) and node.func.id in ("len", "sorted"):
                    allowed += node.args
            for node in ast.walk(tree):
                self.assertNotIsInstance(node, (ast.Set, ast.SetComp), path)
                if isinstance(node, ast.Call) and isinstance(node.func, ast.Name) and node.func.id in ("set", "frozenset"):
                    self.assertIn(node, allowed, (path, node.lineno))

    def test_keywords_of_builtins(self):
        allowed = {"sorted": {"key", "reverse"}, "min": {"key", "default"}, "max": {"key", "default"}, "sum": {"start"},
                   "enumerate": {"start"}, "zip": {"strict"}}
        for path, tree in trees():
            for node in ast.walk(tree):
                if isinstance(node, ast.Call):
                    named = {word.arg for word in node.keywords}
                    if isinstance(node.func, ast.Name) and hasattr(builtins, node.func.id):
                        self.assertLessEqual(named, allowed.get(node.func.id, set()), (path, node.lineno))
                    if isinstance(node.func, ast.Attribute):
                        self.assertEqual(named, set(), (path, node.lineno))

    def test_what_is_not_used_at_all(self):
        barred = (ast.Yield, ast.YieldFrom, ast.GeneratorExp, ast.NamedExpr, ast.Nonlocal, ast.With, ast.Match, ast.AnnAssign,
                  ast.Delete)
        for path, tree in trees():
            for node in ast.walk(tree):
                self.assertNotIsInstance(node, barred, (path, getattr(node, "lineno", None)))
                if isinstance(node, ast.arg):
                    self.assertIsNone(node.annotation)
                if isinstance(node, ast.FunctionDef):
                    self.assertIsNone(node.returns)
                    self.assertEqual(node.args.posonlyargs, [])

    def test_handlers_name_own_refusals(self):
        own = {node.name for node in ast.parse((PACKAGE / "errors.py").read_text()).body if isinstance(node, ast.ClassDef)}
        for path, tree in trees():
            for node in ast.walk(tree):
                if isinstance(node, ast.ExceptHandler):
                    self.assertIn(ast.unparse(node.type), own, path)
                    self.assertIsNone(node.name)
                if isinstance(node, ast.Try):
                    self.assertEqual(node.finalbody, [])

    def test_escapes(self):
        for path in FILES:
            self.assertEqual(re.findall(r"\\[^n]", path.read_text()), [], path)

    def test_what_a_loop_goes_through_is_not_changed_in_it(self):
        changing = {"append", "clear", "extend", "insert", "pop", "remove", "reverse", "setdefault", "update", "sort"}
        for path, tree in trees():
            for loop in ast.walk(tree):
                if isinstance(loop, ast.For):
                    over = {ast.unparse(part) for part in ast.walk(loop.iter) if isinstance(part, (ast.Name, ast.Attribute))}
                    for node in [part for row in loop.body for part in ast.walk(row)]:
                        if isinstance(node, ast.Call) and isinstance(node.func, ast.Attribute):
                            if node.func.attr in changing:
                                self.assertNotIn(ast.unparse(node.func.value), over, (path, node.lineno))
                        if isinstance(node, ast.Subscript) and isinstance(node.ctx, ast.Store):
                            self.assertNotIn(ast.unparse(node.value), over, (path, node.lineno))
                        if isinstance(node, ast.Call) and ast.unparse(node.func) == "add_at":
                            self.assertNotIn(ast.unparse(node.args[0]), over, (path, node.lineno))


if __name__ == "__main__":
    unittest.main()
