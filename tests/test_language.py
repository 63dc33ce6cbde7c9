"""The package keeps to the small subset of Python that it is written in."""

import ast
import builtins
import os
import re
import unittest

FOLDER = os.path.join(os.path.dirname(os.path.dirname(os.path.abspath(__file__))), "shardstack")
MOST_LINES = 399
MOST_IN_FUNCTION = 40
MOST_IN_LINE = 120

ALLOWED_CALLS = set(
    "len range enumerate zip min max sum abs sorted reversed int str bool list tuple dict isinstance ord repr any all "
    "divmod iter next".split())
ERROR_NAMES = set(
    "Exception ValueError TypeError KeyError IndexError LookupError ZeroDivisionError ArithmeticError OverflowError "
    "RuntimeError NotImplementedError AttributeError StopIteration NotImplemented".split())
VALUE_METHODS = set(
    "append clear copy count endswith extend find get index insert isalnum isalpha isdigit islower isspace isupper "
    "items join keys ljust lower lstrip partition pop remove replace reverse rfind rjust rpartition rsplit rstrip "
    "setdefault split splitlines startswith strip update upper values zfill bit_length".split())
BARRED_NAMES = set(
    "mro elements open input law version_info with_traceback add_note register attrgetter breakpoint builtins compile "
    "copyright credits delattr dir eval exec exit gc getattr globals hasattr help id importlib license locals "
    "methodcaller os quit setattr super type vars sys typing typing_extensions enum Enum IntEnum StrEnum Flag IntFlag "
    "Generic Protocol ABC ABCMeta namedtuple NamedTuple TypedDict TYPE_CHECKING abstractmethod deque appendleft "
    "popleft extendleft rotate _".split())
BARRED_ATTRIBUTES = set(
    "items keys values pop update append clear extend insert remove reverse setdefault sort args encode decode hex "
    "fromhex format format_map mro elements open input law register bit_count conjugate from_bytes is_integer "
    "to_bytes as_integer_ratio real imag numerator denominator".split())
BARRED_NODES = (
    ast.Set, ast.GeneratorExp, ast.Global, ast.Nonlocal, ast.AsyncFunctionDef, ast.Await,
    ast.Yield, ast.YieldFrom, ast.With, ast.AsyncWith, ast.AsyncFor, ast.AnnAssign, ast.NamedExpr, ast.Starred,
    ast.Div, ast.MatMult, ast.Assert, ast.Match, ast.Pow)


def sources():
    """Return (name, text, tree) of each file of the package."""
    found = []
    for name in sorted(os.listdir(FOLDER)):
        if name.endswith(".py"):
            with open(os.path.join(FOLDER, name), encoding="utf-8") as file:
                text = file.read()
            found.append((name, text, ast.parse(text)))
    return found


SOURCES = sources()


def nodes(kind):
    """Yield (file, node) of all nodes of a kind."""
    for name, _, tree in SOURCES:
        for node in ast.walk(tree):
            if isinstance(node, kind):
                yield name, node


def docstrings(tree):
    """Return the constants that are docstrings."""
    found = []
    for node in ast.walk(tree):
        if isinstance(node, (ast.Module, ast.ClassDef, ast.FunctionDef)) and node.body:
            first = node.body[0]
            if isinstance(first, ast.Expr) and isinstance(first.value, ast.Constant):
                found.append(first.value)
    return found


def is_plain(node):
    """Return True for a value that may stand at module level."""
    if isinstance(node, (ast.Tuple, ast.List)):
        return all(is_plain(one) and not isinstance(one, (ast.List, ast.Dict)) for one in node.elts)
    if isinstance(node, ast.Dict):
        return all(is_plain(one) and not isinstance(one, (ast.List, ast.Dict)) for one in node.keys + node.values)
    return isinstance(node, ast.Constant)


class Files(unittest.TestCase):
    def test_folder(self):
        for name in os.listdir(FOLDER):
            if name != "__pycache__":
                self.assertRegex(name, r"^(__init__|[a-z][a-z0-9_]*)\.py$")

    def test_characters_and_sizes(self):
        for name, text, _ in SOURCES:
            lines = text.split("\n")
            self.assertLessEqual(len(lines) - 1, MOST_LINES, name)
            self.assertEqual([sign for sign in text if sign != "\n" and not " " <= sign <= "~"], [], name)
            self.assertEqual([line for line in lines if len(line) > MOST_IN_LINE], [], name)

    def test_functions_are_short(self):
        for name, node in nodes(ast.FunctionDef):
            self.assertLessEqual(node.end_lineno - node.lineno + 1, MOST_IN_FUNCTION, (name, node.name))

    def test_each_has_a_docstring(self):
        for name, _, tree in SOURCES:
            for node in ast.walk(tree):
                if isinstance(node, (ast.Module, ast.ClassDef, ast.FunctionDef)):
                    if getattr(node, "name", "") != "__init__":
                        self.assertIsNotNone(ast.get_docstring(node), (name, getattr(node, "name", "")))

    def test_words(self):
        for name, text, _ in SOURCES:
            for word in ("_wall", "_WallAttr", "dataclass", "overload", "contextmanager"):
                self.assertNotIn(word, text, name)


class ModuleLevel(unittest.TestCase):
    def test_statements(self):
        for name, _, tree in SOURCES:
            bound = []
            for node in tree.body:
                if isinstance(node, ast.ImportFrom):
                    bound.extend(one.name for one in node.names)
                    self.assertTrue(all(one.asname is None for one in node.names), name)
                elif isinstance(node, (ast.FunctionDef, ast.ClassDef)):
                    bound.append(node.name)
                elif isinstance(node, ast.Assign):
                    self.assertEqual(len(node.targets), 1, name)
                    self.assertIsInstance(node.targets[0], ast.Name, name)
                    self.assertTrue(is_plain(node.value), (name, node.targets[0].id))
                    bound.append(node.targets[0].id)
                else:
                    self.assertIsInstance(node, ast.Expr, name)
                    self.assertIsInstance(node.value, ast.Constant, name)
            self.assertEqual(len(bound), len(set(bound)), name)

    def test_imports_name_the_file_that_defines(self):
        defined = {}
        for name, _, tree in SOURCES:
            module = "shardstack." + name[:-3]
            defined[module] = set()
            for node in tree.body:
                if isinstance(node, (ast.FunctionDef, ast.ClassDef)):
                    defined[module].add(node.name)
                elif isinstance(node, ast.Assign):
                    defined[module].add(node.targets[0].id)
        self.assertEqual(list(nodes(ast.Import)), [])
        for name, node in nodes(ast.ImportFrom):
            self.assertEqual(node.level, 0, name)
            self.assertIn(node.module, defined, name)
            for one in node.names:
                self.assertIn(one.name, defined[node.module], name)

    def test_imports_go_in_no_ring(self):
        wants = {}
        for name, node in nodes(ast.ImportFrom):
            wants.setdefault("shardstack." + name[:-3], set()).add(node.module)
        left = dict(wants)
        while left:
            free = [one for one in left if not left[one] & set(left)]
            self.assertNotEqual(free, [], left)
            for one in free:
                del left[one]

    def test_imports_are_used(self):
        for name, _, tree in SOURCES:
            used = {node.id for node in ast.walk(tree) if isinstance(node, ast.Name)}
            for node in tree.body:
                if isinstance(node, ast.ImportFrom):
                    for one in node.names:
                        self.assertIn(one.name, used, name)

    def test_tables_are_only_read(self):
        for name, _, tree in SOURCES:
            tables = {node.targets[0].id for node in tree.body
                      if isinstance(node, ast.Assign) and isinstance(node.value, (ast.List, ast.Dict))}
            plain = set()
            for node in ast.walk(tree):
                if isinstance(node, ast.Subscript) and isinstance(node.ctx, ast.Load):
                    plain.add(node.value)
                elif isinstance(node, ast.Compare):
                    plain.update(node.comparators)
                elif isinstance(node, ast.Call) and isinstance(node.func, ast.Name) and node.func.id in ("dict", "list"):
                    plain.update(node.args)
            for node in ast.walk(tree):
                if isinstance(node, ast.Name) and node.id in tables and isinstance(node.ctx, ast.Load):
                    self.assertIn(node, plain, (name, node.id))


class Statements(unittest.TestCase):
    def test_nodes(self):
        for name, node in nodes(BARRED_NODES):
            self.fail((name, node.lineno, type(node).__name__))

    def test_no_decorators_and_nested_classes(self):
        for name, node in nodes((ast.FunctionDef, ast.ClassDef)):
            self.assertEqual(node.decorator_list, [], (name, node.name))
        for name, node in nodes((ast.FunctionDef, ast.ClassDef)):
            for inner in node.body:
                if isinstance(node, ast.FunctionDef) or isinstance(inner, ast.ClassDef):
                    self.assertNotIsInstance(inner, (ast.ClassDef, ast.FunctionDef), (name, node.name))

    def test_defaults_are_plain(self):
        for name, node in nodes(ast.FunctionDef):
            self.assertIsNone(node.args.vararg, (name, node.name))
            self.assertIsNone(node.args.kwarg, (name, node.name))
            for one in node.args.defaults:
                self.assertIsInstance(one, (ast.Constant, ast.Tuple), (name, node.name))
                self.assertTrue(is_plain(one), (name, node.name))

    def test_special_methods(self):
        for name, node in nodes(ast.FunctionDef):
            if node.name.startswith("__"):
                self.assertEqual(node.name, "__init__", name)

    def test_classes_and_methods(self):
        for name, node in nodes(ast.ClassDef):
            self.assertLessEqual(len(node.bases), 1)
            told = [one.name for one in node.body if isinstance(one, ast.FunctionDef)]
            self.assertEqual(len(told), len(set(told)), (name, node.name))
            own = {one.attr for one in ast.walk(node) if isinstance(one, ast.Attribute)
                   and isinstance(one.ctx, ast.Store) and isinstance(one.value, ast.Name) and one.value.id == "self"}
            self.assertEqual(own & set(told), set(), (name, node.name))

    def test_attributes_are_assigned_through_a_local_name(self):
        for name, node in nodes(ast.Attribute):
            if not isinstance(node.ctx, ast.Load):
                self.assertIsInstance(node.value, ast.Name, (name, node.lineno))

    def test_attributes_are_set_at_creation(self):
        for name, node in nodes(ast.ClassDef):
            first = {}
            for one in node.body:
                if isinstance(one, ast.FunctionDef):
                    first[one.name] = {inner.attr for inner in ast.walk(one) if isinstance(inner, ast.Attribute)
                                       and isinstance(inner.ctx, ast.Store) and isinstance(inner.value, ast.Name)
                                       and inner.value.id == "self"}
            for told, found in first.items():
                self.assertEqual(found - first.get("__init__", set()), set(), (name, node.name, told))

    def test_is(self):
        for name, node in nodes(ast.Compare):
            for sign, right in zip(node.ops, node.comparators):
                if isinstance(sign, (ast.Is, ast.IsNot)):
                    self.assertIsInstance(right, ast.Constant, (name, node.lineno))
                    self.assertIn(right.value, (None, True, False), (name, node.lineno))

    def test_errors(self):
        own = {node.name for name, node in nodes(ast.ClassDef) if name == "errors.py"}
        for name, node in nodes(ast.ExceptHandler):
            for one in node.type.elts if isinstance(node.type, ast.Tuple) else [node.type]:
                self.assertIsInstance(one, ast.Name, (name, node.lineno))
                self.assertIn(one.id, own | {"KeyError", "ZeroDivisionError"}, (name, node.lineno))
        bare = [inner for _, node in nodes(ast.ExceptHandler) for inner in ast.walk(node) if isinstance(inner, ast.Raise)]
        for name, node in nodes(ast.Raise):
            if node.exc is None:
                self.assertIn(node, bare, (name, node.lineno))
            else:
                self.assertIsInstance(node.exc, ast.Call, (name, node.lineno))
                self.assertIn(node.exc.func.id, own, (name, node.lineno))

    def test_sets_are_sorted_at_once(self):
        for name, tree in [(name, tree) for name, _, tree in SOURCES]:
            at_once = {one for node in ast.walk(tree) if isinstance(node, ast.Call) and isinstance(node.func, ast.Name)
                       and node.func.id in ("sorted", "len") for one in node.args}
            for node in ast.walk(tree):
                if isinstance(node, ast.SetComp):
                    self.assertIn(node, at_once, (name, node.lineno))

    def test_format_strings(self):
        for name, node in nodes(ast.JoinedStr):
            self.assertEqual(node.lineno, node.end_lineno, (name, node.lineno))
            for one in ast.walk(node):
                if isinstance(one, ast.FormattedValue):
                    self.assertIsNone(one.format_spec, (name, node.lineno))
                    self.assertEqual([inner for inner in ast.walk(one.value) if isinstance(inner, ast.Constant)
                                      and isinstance(inner.value, (str, bytes))], [], (name, node.lineno))

    def test_lambdas(self):
        places = [(name, node.lineno) for name, node in nodes(ast.Lambda)]
        self.assertEqual(len(places), len(set(places)))


class Names(unittest.TestCase):
    def names(self):
        for name, node in nodes((ast.Name, ast.arg, ast.FunctionDef, ast.ClassDef, ast.ExceptHandler)):
            if isinstance(node, ast.Name):
                if isinstance(node.ctx, ast.Store):
                    yield name, node.id
            elif isinstance(node, ast.arg):
                yield name, node.arg
            elif node.name is not None:
                yield name, node.name

    def methods(self):
        return {one.name for _, node in nodes(ast.ClassDef) for one in node.body if isinstance(one, ast.FunctionDef)}

    def attributes(self):
        return {node.attr for _, node in nodes(ast.Attribute) if isinstance(node.ctx, ast.Store)}

    def test_names_are_free(self):
        methods = self.methods()
        for name, told in self.names():
            if told == "__init__" or told == "_":
                continue
            self.assertRegex(told, r"^[A-Za-z][A-Za-z0-9_]*$", name)
            self.assertNotIn(told, BARRED_NAMES, name)
            if told not in methods:
                self.assertFalse(hasattr(builtins, told), (name, told))

    def test_methods_are_no_allowed_builtins(self):
        for told in self.methods() - {"__init__"}:
            self.assertNotIn(told, ALLOWED_CALLS | ERROR_NAMES | {"set", "frozenset", "print", "pow", "bytes"})

    def test_attributes_are_free(self):
        self.assertEqual(self.attributes() & BARRED_ATTRIBUTES, set())

    def test_underscore_is_not_read(self):
        for name, node in nodes(ast.Name):
            if node.id == "_":
                self.assertIsInstance(node.ctx, ast.Store, (name, node.lineno))

    def test_builtins_that_are_read(self):
        for name, _, tree in SOURCES:
            bound = {node.id for node in ast.walk(tree) if isinstance(node, ast.Name) and isinstance(node.ctx, ast.Store)}
            bound |= {node.arg for node in ast.walk(tree) if isinstance(node, ast.arg)}
            bound |= {node.name for node in ast.walk(tree) if isinstance(node, (ast.FunctionDef, ast.ClassDef))}
            bound |= {one.name for node in ast.walk(tree) if isinstance(node, ast.ImportFrom) for one in node.names}
            for node in ast.walk(tree):
                if isinstance(node, ast.Name) and isinstance(node.ctx, ast.Load) and node.id not in bound:
                    self.assertIn(node.id, ALLOWED_CALLS | ERROR_NAMES, (name, node.lineno))

    def test_no_name_of_a_class_or_an_import_is_hidden(self):
        for name, _, tree in SOURCES:
            outer = {node.name for node in tree.body if isinstance(node, ast.ClassDef)}
            outer |= {one.name for node in tree.body if isinstance(node, ast.ImportFrom) for one in node.names}
            inner = {node.id for function in ast.walk(tree) if isinstance(function, ast.FunctionDef)
                     for node in ast.walk(function) if isinstance(node, ast.Name) and isinstance(node.ctx, ast.Store)}
            inner |= {node.arg for node in ast.walk(tree) if isinstance(node, ast.arg)}
            self.assertEqual(outer & inner, set(), name)

    def test_called_methods_are_known(self):
        methods = self.methods()
        for name, node in nodes(ast.Call):
            if isinstance(node.func, ast.Attribute):
                self.assertIn(node.func.attr, methods | VALUE_METHODS, (name, node.lineno))
                self.assertEqual(node.keywords, [], (name, node.lineno))

    def test_read_attributes_are_known(self):
        known = self.methods() | self.attributes() | VALUE_METHODS
        for name, node in nodes(ast.Attribute):
            self.assertIn(node.attr, known, (name, node.lineno))


class Strings(unittest.TestCase):
    def test_strings(self):
        for name, _, tree in SOURCES:
            free = docstrings(tree)
            for node in ast.walk(tree):
                if isinstance(node, ast.Constant) and node not in free:
                    self.assertNotIsInstance(node.value, (float, complex, bytes), (name, node.lineno))
                    if isinstance(node.value, str):
                        self.assertNotIn("%", node.value, (name, node.lineno))
                        self.assertFalse(re.search(r"(^|[^_A-Za-z0-9])__", node.value), (name, node.lineno))

    def test_views_are_iterated_at_once(self):
        for name, _, tree in SOURCES:
            at_once = set()
            for node in ast.walk(tree):
                if isinstance(node, (ast.For, ast.comprehension)):
                    at_once.add(node.iter)
                elif isinstance(node, ast.Call) and isinstance(node.func, ast.Name):
                    if node.func.id in ("list", "tuple", "dict", "sorted", "sum", "any", "all", "enumerate", "zip"):
                        at_once.update(node.args[:1])
            for node in ast.walk(tree):
                if isinstance(node, ast.Call):
                    told = node.func.id if isinstance(node.func, ast.Name) else getattr(node.func, "attr", "")
                    if told in ("zip", "enumerate", "reversed", "range", "items", "keys", "values"):
                        self.assertIn(node, at_once, (name, node.lineno))


if __name__ == "__main__":
    unittest.main()
