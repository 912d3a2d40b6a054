"""Holds the files of the package against the rules of LANGUAGE.md that a reading of the code can tell."""

import ast
import builtins
import re
import unittest
import warnings
from pathlib import Path

PACKAGE = Path(__file__).resolve().parent.parent / "hollowrise"
FILES = sorted(PACKAGE.glob("*.py"))
TREES = {path: ast.parse(path.read_text(encoding="utf-8")) for path in FILES}

LIBRARY = {
    "heapq": {"heappush", "heappop", "heapify", "heapreplace", "heappushpop"},
    "math": {"gcd", "lcm", "isqrt", "comb", "perm", "factorial"},
    "itertools": {"product", "combinations", "permutations", "chain", "accumulate", "pairwise", "islice",
                  "zip_longest"},
    "collections": {"defaultdict", "deque"},
}
BUILTINS = set(
    "len range enumerate zip min max sum abs sorted reversed int str bool list tuple dict set isinstance ord repr any "
    "all divmod pow getattr hasattr setattr Exception ValueError TypeError KeyError IndexError LookupError "
    "ZeroDivisionError ArithmeticError OverflowError RuntimeError NotImplementedError AttributeError StopIteration "
    "NotImplemented map iter next type super property staticmethod classmethod object bytes".split())
METHODS = set(
    "append clear copy count endswith extend find get index insert isalnum isalpha isdigit islower isspace isupper "
    "items join keys ljust lower lstrip partition pop remove replace reverse rfind rjust rpartition rsplit rstrip "
    "setdefault split splitlines startswith strip update upper values zfill bit_length title capitalize swapcase "
    "casefold center expandtabs removeprefix removesuffix rindex isascii isdecimal isnumeric istitle isidentifier "
    "isprintable add discard sort format from_iterable popleft appendleft extendleft rotate translate".split())
DOUBLE = set(
    "__init__ __eq__ __repr__ __str__ __len__ __enter__ __exit__ __call__ __iter__ __lt__ __le__ __gt__ __ge__ __ne__ "
    "__add__ __sub__ __mul__ __bool__ __contains__ __getitem__ __setitem__ __neg__".split())
BARRED_WORDS = set("typing typing_extensions enum Enum IntEnum StrEnum Flag IntFlag Generic Protocol ABC ABCMeta "
                   "namedtuple NamedTuple TypedDict TYPE_CHECKING abstractmethod".split())
BARRED_NAMES = set(
    "register mro elements open input law version_info with_traceback add_note attrgetter breakpoint compile copyright "
    "credits delattr dir eval exec exit gc globals help id importlib license locals methodcaller os quit vars sys "
    "hash round filter slice print frozenset chr float complex".split())
BARRED_NODES = (ast.AsyncFunctionDef, ast.AsyncFor, ast.AsyncWith, ast.Await, ast.Import, ast.Starred, ast.TryStar)


def nodes_of(path, kinds):
    return [node for node in ast.walk(TREES[path]) if isinstance(node, kinds)]


def bound_names(tree):
    """All names that a file binds anywhere: arguments, targets, functions, classes, imports."""
    names = set()
    for node in ast.walk(tree):
        if isinstance(node, ast.arg):
            names.add(node.arg)
        elif isinstance(node, ast.Name) and not isinstance(node.ctx, ast.Load):
            names.add(node.id)
        elif isinstance(node, (ast.FunctionDef, ast.ClassDef)):
            names.add(node.name)
        elif isinstance(node, ast.alias):
            names.add(node.asname or node.name)
        elif isinstance(node, ast.ExceptHandler) and node.name:
            names.add(node.name)
    return names


class Files(unittest.TestCase):
    def test_only_plain_files(self):
        self.assertIn(PACKAGE / "__init__.py", FILES)
        for path in PACKAGE.iterdir():
            if path.name != "__pycache__":
                self.assertRegex(path.name, r"^(__init__|__main__|[a-z][a-z0-9_]*)\.py$")
        self.assertLessEqual(len(FILES), 100)

    def test_sizes_and_signs(self):
        for path in FILES:
            text = path.read_text(encoding="utf-8")
            self.assertRegex(text, r"\A[ -~\n]*\Z", path.name)
            self.assertLessEqual(text.count("\n"), 399, path.name)
            for number, line in enumerate(text.split("\n"), 1):
                self.assertLessEqual(len(line), 120, (path.name, number))
            for node in nodes_of(path, ast.FunctionDef):
                self.assertLessEqual(node.end_lineno - node.lineno + 1, 40, (path.name, node.name))

    def test_no_warnings(self):
        with warnings.catch_warnings():
            warnings.simplefilter("error")
            for path in FILES:
                compile(path.read_text(encoding="utf-8"), str(path), "exec")


class Imports(unittest.TestCase):
    def imports(self, path):
        return nodes_of(path, ast.ImportFrom)

    def test_from_the_package_or_the_library_at_the_top(self):
        for path in FILES:
            for node in self.imports(path):
                self.assertIn(node, TREES[path].body, path.name)
                self.assertEqual(node.level, 0)
                if node.module in LIBRARY:
                    self.assertLessEqual({alias.name for alias in node.names}, LIBRARY[node.module])
                    continue
                package, _, name = node.module.partition(".")
                self.assertEqual(package, "hollowrise", path.name)
                defined = {thing.name for thing in TREES[PACKAGE / f"{name}.py"].body
                           if isinstance(thing, (ast.FunctionDef, ast.ClassDef))}
                defined |= {target.id for thing in TREES[PACKAGE / f"{name}.py"].body if isinstance(thing, ast.Assign)
                            for target in thing.targets}
                self.assertLessEqual({alias.name for alias in node.names}, defined, path.name)

    def test_no_circles(self):
        above = {path.stem: {node.module.partition(".")[2] for node in self.imports(path)
                             if node.module.startswith("hollowrise.")} for path in FILES}
        done = set()
        while len(done) < len(above):
            free = {name for name in above if name not in done and above[name] <= done}
            self.assertTrue(free, sorted(set(above) - done))
            done |= free

    def test_no_name_means_an_import_and_something_else(self):
        for path in FILES:
            imported = [alias.name for node in self.imports(path) for alias in node.names]
            self.assertEqual(len(imported), len(set(imported)), path.name)
            methods = [part for node in nodes_of(path, ast.ClassDef) for part in node.body]
            for node in ast.walk(TREES[path]):
                if node in methods:
                    continue
                if isinstance(node, ast.arg):
                    self.assertNotIn(node.arg, imported, path.name)
                elif isinstance(node, ast.Name) and not isinstance(node.ctx, ast.Load):
                    self.assertNotIn(node.id, imported, path.name)
                elif isinstance(node, (ast.FunctionDef, ast.ClassDef)):
                    self.assertNotIn(node.name, imported, path.name)


class Statements(unittest.TestCase):
    def test_module_level(self):
        for path in FILES:
            names = []
            for at, node in enumerate(TREES[path].body):
                if at == 0 and isinstance(node, ast.Expr):
                    self.assertIsInstance(node.value, ast.Constant)
                    continue
                self.assertIsInstance(node, (ast.ImportFrom, ast.FunctionDef, ast.ClassDef, ast.Assign), path.name)
                if isinstance(node, ast.Assign):
                    self.assertEqual(len(node.targets), 1)
                    names.append(node.targets[0].id)
                elif not isinstance(node, ast.ImportFrom):
                    names.append(node.name)
            self.assertEqual(len(names), len(set(names)), path.name)

    def test_no_barred_parts(self):
        for path in FILES:
            self.assertEqual(nodes_of(path, BARRED_NODES), [], path.name)
            for node in nodes_of(path, ast.Constant):
                self.assertNotIsInstance(node.value, (float, complex), path.name)
                if isinstance(node.value, str):
                    self.assertNotIn("%", node.value, path.name)
            for node in nodes_of(path, (ast.BinOp, ast.AugAssign)):
                self.assertNotIsInstance(node.op, (ast.Div, ast.MatMult), path.name)
            for node in nodes_of(path, ast.Compare):
                for sign, side in zip(node.ops, node.comparators):
                    if isinstance(sign, (ast.Is, ast.IsNot)):
                        asked = ast.unparse(node.left)
                        self.assertTrue(isinstance(side, ast.Constant) or asked.startswith("type("), path.name)

    def test_decorators_and_bases(self):
        for path in FILES:
            for node in nodes_of(path, (ast.FunctionDef, ast.ClassDef)):
                self.assertEqual(node.decorator_list, [], (path.name, node.name))

    def test_docstrings(self):
        for path in FILES:
            self.assertTrue(ast.get_docstring(TREES[path]), path.name)
            for node in nodes_of(path, (ast.FunctionDef, ast.ClassDef)):
                if node.name != "__init__":
                    self.assertTrue(ast.get_docstring(node), (path.name, node.name))


class Names(unittest.TestCase):
    def test_builtins_that_are_used(self):
        for path in FILES:
            bound = bound_names(TREES[path])
            for node in nodes_of(path, ast.Name):
                if node.id not in bound:
                    self.assertIn(node.id, BUILTINS, (path.name, node.lineno))

    def test_no_builtin_is_given_another_meaning(self):
        for path in FILES:
            for name in bound_names(TREES[path]):
                self.assertNotIn(name, vars(builtins), path.name)
                self.assertNotIn(name, BARRED_NAMES, path.name)
                if name.startswith("__"):
                    self.assertIn(name, DOUBLE, path.name)

    def test_methods_that_are_called(self):
        own = {node.name for path in FILES for kind in nodes_of(path, ast.ClassDef) for node in kind.body
               if isinstance(node, ast.FunctionDef)}
        for path in FILES:
            for node in nodes_of(path, ast.Call):
                if isinstance(node.func, ast.Attribute):
                    self.assertIn(node.func.attr, METHODS | own, (path.name, node.lineno))

    def test_attributes_are_assigned_somewhere(self):
        stored = {node.attr for path in FILES for node in nodes_of(path, ast.Attribute)
                  if isinstance(node.ctx, ast.Store)}
        own = {node.name for path in FILES for node in nodes_of(path, ast.FunctionDef)}
        for path in FILES:
            for node in nodes_of(path, ast.Attribute):
                self.assertNotIn(node.attr, BARRED_NAMES, path.name)
                if node.attr == "__name__" and ast.unparse(node.value).startswith("type("):
                    continue
                self.assertIn(node.attr, stored | own | METHODS, (path.name, node.lineno))

    def test_words(self):
        for path in FILES:
            code = ast.unparse(without_docstrings(ast.parse(path.read_text(encoding="utf-8"))))
            words = set(re.findall(r"\w+", code))
            self.assertEqual(words & BARRED_WORDS, set(), path.name)
            self.assertEqual(re.findall(r"\btype\b(?!\()", code), [], path.name)
            self.assertNotRegex(path.read_text(encoding="utf-8"), r"_wall\b|_WallAttr|dataclass|overload|contextmanager")

    def test_type_is_only_compared_or_asked_for_its_name(self):
        for path in FILES:
            compared = [side for node in nodes_of(path, ast.Compare) for side in (node.left, *node.comparators)]
            compared += [node.value for node in nodes_of(path, ast.Attribute) if node.attr == "__name__"]
            for node in nodes_of(path, ast.Call):
                if isinstance(node.func, ast.Name) and node.func.id == "type":
                    self.assertIn(node, compared, (path.name, node.lineno))


def parents_of(tree):
    """From each part of a file to the one around it."""
    return {child: node for node in ast.walk(tree) for child in ast.iter_child_nodes(node)}


def own_errors():
    return {node.name for node in TREES[PACKAGE / "errors.py"].body if isinstance(node, ast.ClassDef)}


def functions_of(path):
    return nodes_of(path, (ast.FunctionDef, ast.Lambda))


class Iteration(unittest.TestCase):
    """L7, L23, L24, L25, since a class compares and has a length."""

    def test_exponents_are_small_literals(self):
        for path in FILES:
            for node in nodes_of(path, ast.BinOp):
                if isinstance(node.op, ast.Pow):
                    self.assertIn(ast.literal_eval(node.right), range(65), (path.name, node.lineno))

    def test_no_generators_no_sets(self):
        barred = (ast.GeneratorExp, ast.Yield, ast.YieldFrom, ast.Set, ast.SetComp, ast.Global, ast.Match)
        for path in FILES:
            self.assertEqual(nodes_of(path, barred), [], path.name)
            for node in nodes_of(path, ast.Call):
                self.assertNotIn(ast.unparse(node.func), ("set", "frozenset", "iter", "next", "bytes"), path.name)
                if isinstance(node.func, ast.Attribute):
                    self.assertNotEqual(node.func.attr, "sort", path.name)

    def test_iterated_at_once(self):
        takers = {"list", "tuple", "dict", "sorted", "sum", "any", "all", "min", "max", "enumerate", "zip"}
        for path in FILES:
            parents = parents_of(TREES[path])
            for node in nodes_of(path, ast.Call):
                name = ast.unparse(node.func)
                if name not in ("zip", "enumerate", "reversed", "range") and not name.endswith((".items", ".values",
                                                                                               ".keys")):
                    continue
                around = parents[node]
                iterated = isinstance(around, (ast.For, ast.comprehension)) and around.iter is node
                taken = isinstance(around, ast.Call) and ast.unparse(around.func) in takers
                kept = name == "range" and isinstance(around, ast.Assign) and isinstance(around.targets[0], ast.Name)
                turned = name == "range" and isinstance(around, ast.Call) and ast.unparse(around.func) == "reversed"
                self.assertTrue(iterated or taken or kept or turned, (path.name, node.lineno))

    def test_what_a_loop_goes_over_is_not_changed_in_it(self):
        for path in FILES:
            for loop in nodes_of(path, ast.For):
                gone_over = {node.id for node in ast.walk(loop.iter) if isinstance(node, ast.Name)}
                gone_over |= {ast.unparse(node) for node in ast.walk(loop.iter) if isinstance(node, ast.Attribute)}
                for node in ast.walk(ast.Module(loop.body, [])):
                    if isinstance(node, ast.Subscript) and not isinstance(node.ctx, ast.Load):
                        self.assertNotIn(ast.unparse(node.value), gone_over, (path.name, node.lineno))
                    if isinstance(node, ast.Call) and isinstance(node.func, ast.Attribute):
                        self.assertNotIn(ast.unparse(node.func.value), gone_over, (path.name, node.lineno))

    def test_underscore_is_never_read(self):
        for path in FILES:
            for node in nodes_of(path, ast.Name):
                self.assertFalse(node.id == "_" and isinstance(node.ctx, ast.Load), (path.name, node.lineno))


class Calls(unittest.TestCase):
    """L4, L13, L15, L19, L22."""

    def test_builtins_are_called_not_kept(self):
        for path in FILES:
            bound = bound_names(TREES[path])
            parents = parents_of(TREES[path])
            for node in nodes_of(path, ast.Name):
                if node.id in BUILTINS and node.id not in bound:
                    around = parents[node]
                    called = isinstance(around, ast.Call) and around.func is node
                    kind = isinstance(around, (ast.ClassDef, ast.ExceptHandler, ast.Compare))
                    self.assertTrue(called or kind, (path.name, node.lineno, node.id))

    def test_builtins_and_their_methods_take_no_keywords(self):
        for path in FILES:
            for node in nodes_of(path, ast.Call):
                plain = isinstance(node.func, ast.Name) and node.func.id in BUILTINS
                method = isinstance(node.func, ast.Attribute) and node.func.attr in METHODS
                if plain or method:
                    self.assertEqual(node.keywords, [], (path.name, node.lineno))

    def test_errors_are_made_where_they_are_raised_and_caught_by_name(self):
        for path in FILES:
            for node in nodes_of(path, ast.Raise):
                made = node.exc is None or ast.unparse(node.exc.func) in own_errors()
                self.assertTrue(made, (path.name, node.lineno))
                self.assertIsNone(node.cause)
            for node in nodes_of(path, ast.ExceptHandler):
                kinds = node.type.elts if isinstance(node.type, ast.Tuple) else [node.type]
                for kind in kinds:
                    self.assertIn(ast.unparse(kind), own_errors() | {"KeyError", "ZeroDivisionError"}, path.name)

    def test_one_lambda_a_line(self):
        for path in FILES:
            lines = [node.lineno for node in nodes_of(path, ast.Lambda)]
            self.assertEqual(len(lines), len(set(lines)), path.name)

    def test_defaults_are_plain(self):
        for path in FILES:
            for node in functions_of(path):
                for default in node.args.defaults + [default for default in node.args.kw_defaults if default]:
                    self.assertIn(type(ast.literal_eval(default)), (int, str, tuple, bool, type(None)), path.name)

    def test_no_parameter_or_variable_is_called_as_a_class_of_its_file(self):
        for path in FILES:
            classes = {node.name for node in nodes_of(path, ast.ClassDef)}
            for node in ast.walk(TREES[path]):
                name = node.arg if isinstance(node, ast.arg) else getattr(node, "id", None)
                if name in classes:
                    self.assertIsInstance(node, ast.Name)
                    self.assertIsInstance(node.ctx, ast.Load)


class Classes(unittest.TestCase):
    """L5, L18, L26, L28."""

    def classes(self):
        return [(path, node) for path in FILES for node in nodes_of(path, ast.ClassDef)]

    def test_no_name_is_a_method_and_an_attribute(self):
        for path, kind in self.classes():
            methods = [node.name for node in kind.body if isinstance(node, ast.FunctionDef)]
            self.assertEqual(len(methods), len(set(methods)), kind.name)
            stored = {node.attr for node in ast.walk(kind) if isinstance(node, ast.Attribute)
                      and isinstance(node.ctx, ast.Store)}
            self.assertEqual(stored & set(methods), set(), (path.name, kind.name))

    def test_no_attribute_has_the_name_of_a_method_of_plain_values(self):
        taken = {name for kind in (str, int, list, dict, set, bytes, tuple) for name in dir(kind)}
        for path, kind in self.classes():
            for node in ast.walk(kind):
                if isinstance(node, ast.Attribute) and isinstance(node.ctx, ast.Store):
                    self.assertNotIn(node.attr, taken, (path.name, node.lineno))
                if isinstance(node, ast.FunctionDef) and not node.name.startswith("__"):
                    self.assertNotIn(node.name, taken, (path.name, node.lineno))

    def test_double_underscore_methods(self):
        for path, kind in self.classes():
            for node in kind.body:
                if isinstance(node, ast.FunctionDef) and node.name in ("__eq__", "__len__"):
                    self.assertEqual([type(row) for row in node.body], [ast.Expr, ast.Return], (path.name, node.name))
                    if node.name == "__len__":
                        self.assertRegex(ast.unparse(node.body[1]), r"^return len\(")
                if isinstance(node, ast.FunctionDef) and node.name == "__init__":
                    self.assertEqual([row for row in ast.walk(node) if isinstance(row, ast.Return)], [])

    def test_attributes_are_assigned_through_self(self):
        for path in FILES:
            for node in nodes_of(path, ast.Attribute):
                if not isinstance(node.ctx, ast.Load):
                    self.assertEqual(ast.unparse(node.value), "self", (path.name, node.lineno))


def without_docstrings(tree):
    for node in ast.walk(tree):
        if isinstance(node, (ast.Module, ast.FunctionDef, ast.ClassDef)) and ast.get_docstring(node) is not None:
            node.body = node.body[1:] or [ast.Pass()]
    return tree


if __name__ == "__main__":
    unittest.main()
