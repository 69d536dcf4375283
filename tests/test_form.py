"""The form of the package's files: what ../shared/LANGUAGE.md asks for and a look at the rows can tell."""

import ast
import builtins
import pathlib
import re
import unittest
import warnings

FOLDER = pathlib.Path(__file__).resolve().parent.parent / "hueturns"
FILES = sorted(FOLDER.glob("*.py"))

LIBRARY = {"heapq", "math", "itertools", "collections"}
BUILTINS = set("""len range enumerate zip min max sum abs sorted reversed int str bool bytes list tuple dict set
    frozenset isinstance ord repr any all divmod pow getattr hasattr setattr iter next map Exception ValueError
    TypeError KeyError IndexError LookupError ZeroDivisionError ArithmeticError OverflowError RuntimeError
    NotImplementedError AttributeError StopIteration NotImplemented property staticmethod classmethod
    super""".split())
PYTHONS = set(dir(builtins))
DUNDERS = set("""__init__ __eq__ __repr__ __str__ __len__ __enter__ __exit__ __call__ __iter__ __bool__ __contains__
    __getitem__ __setitem__ __class__ __name__""".split())
BARRED_NODES = (ast.Global, ast.AsyncFunctionDef, ast.AsyncFor, ast.AsyncWith, ast.Await, ast.Div, ast.Import)
BARRED_WORDS = set("""register mro elements open input law version_info with_traceback add_note eval exec compile
    globals locals vars dir id help super exit quit os sys gc args chr print hash format""".split())
METHODS = set("""append clear copy count endswith extend find get index insert isalnum isalpha isdigit islower isspace
    isupper items join keys ljust lower lstrip partition pop remove replace reverse rfind rjust rpartition rsplit
    rstrip setdefault split splitlines startswith strip update upper values zfill bit_length add discard
    __init__""".split())
# Operators, and what is run like them, that may change nothing.
SIGNS = ("__eq__", "__len__", "__str__", "__repr__", "__bool__", "__contains__", "__getitem__", "__iter__")
CHANGING = ("append", "pop", "extend", "insert", "remove", "clear", "update", "setdefault", "reverse", "add", "discard")
# What goes through the ranges, zips and views that it is given.
TAKERS = ("list", "tuple", "dict", "sorted", "sum", "any", "all", "enumerate", "zip", "min", "max")
BARRED_IN_FILES = re.compile(r"\b(type|typing|enum|Enum|Generic|Protocol|ABC|namedtuple|NamedTuple)\b"
                             r"|dataclass|overload|contextmanager")


def trees():
    """The name, the text and the tree of each file of the package."""
    return [(file.name, file.read_text(), ast.parse(file.read_text())) for file in FILES]


def rows_of(tree):
    """The text of a file without its comments and docstrings."""
    for node in ast.walk(tree):
        if isinstance(node, (ast.Module, ast.FunctionDef, ast.ClassDef)) and ast.get_docstring(node) is not None:
            node.body[0] = ast.Pass()
    return ast.unparse(tree)


def names_bound(tree):
    """All names that a file gives to something."""
    for node in ast.walk(tree):
        if isinstance(node, (ast.FunctionDef, ast.ClassDef)):
            yield node.name
        elif isinstance(node, ast.arg):
            yield node.arg
        elif isinstance(node, ast.Name) and not isinstance(node.ctx, ast.Load):
            yield node.id


def names_read(tree):
    """All names that a file reads."""
    return {node.id for node in ast.walk(tree) if isinstance(node, ast.Name) and isinstance(node.ctx, ast.Load)}


def is_walked(call):
    """Whether a call gives what has to be gone through on the spot."""
    if isinstance(call.func, ast.Attribute):
        return call.func.attr in ("items", "keys", "values")
    return isinstance(call.func, ast.Name) and call.func.id in ("range", "zip", "enumerate", "reversed")


def functions_of(tree):
    """All functions and methods of a file."""
    return [node for node in ast.walk(tree) if isinstance(node, ast.FunctionDef)]


def called_in(function):
    """The names of all that a function calls."""
    calls = [node.func for node in ast.walk(function) if isinstance(node, ast.Call)]
    return {each.id if isinstance(each, ast.Name) else each.attr for each in calls
            if isinstance(each, (ast.Name, ast.Attribute))}


def run_by_signs():
    """The functions that properties and operators run, themselves among them, each with the name of its file."""
    every = [(name, each) for name, _, tree in trees() for each in functions_of(tree)]
    found = [(name, each) for name, each in every
             if each.name in SIGNS or [ast.unparse(one) for one in each.decorator_list] == ["property"]]
    for _, function in found:
        names = called_in(function)
        # This list is gone through and grows: so what is run by what is run is looked at, too.
        found.extend([row for row in every if row[1].name in names and row not in found])
    return found


def made_here(function):
    """The names to which a function assigns nothing but lists and dicts that it makes."""
    assigned = [node for node in ast.walk(function) if isinstance(node, ast.Assign)]
    kinds = (ast.List, ast.Dict, ast.ListComp, ast.DictComp)
    names = {target.id for node in assigned for target in node.targets if isinstance(target, ast.Name)}
    return {name for name in names if all(
        isinstance(node.value, kinds) for node in assigned for target in node.targets
        if isinstance(target, ast.Name) and target.id == name)}


def base_of(node):
    """The name that an item, or an item of an item, is one of."""
    while isinstance(node, ast.Subscript):
        node = node.value
    return node.id if isinstance(node, ast.Name) else None


class TestFiles(unittest.TestCase):
    def test_only_files_of_python(self):
        others = [each.name for each in FOLDER.iterdir() if each not in FILES and each.name != "__pycache__"]
        self.assertEqual(others, [])
        listed = {"__init__", "limits", "errors", "nets", "cores", "rounds", "ways", "walks", "unknown", "changing",
                  "desks", "books", "checker", "certificates", "console"}
        self.assertLessEqual(listed, {file.stem for file in FILES})

    def test_size_and_characters(self):
        for name, text, _ in trees():
            with self.subTest(name=name):
                self.assertRegex(text, r"\A[ -~\n]*\n\Z")
                self.assertLessEqual(len(text.splitlines()), 399)
                self.assertLessEqual(max(map(len, text.splitlines())), 120)

    def test_no_warnings(self):
        for name, text, _ in trees():
            with self.subTest(name=name), warnings.catch_warnings():
                warnings.simplefilter("error")
                compile(text, name, "exec")

    def test_length_of_functions(self):
        for name, _, tree in trees():
            for node in ast.walk(tree):
                if isinstance(node, ast.FunctionDef):
                    with self.subTest(name=name, function=node.name):
                        self.assertLessEqual(node.end_lineno - node.lineno + 1, 40)

    def test_barred_words(self):
        for name, text, tree in trees():
            with self.subTest(name=name):
                self.assertNotIn("_wall", text)
                self.assertIsNone(BARRED_IN_FILES.search(rows_of(tree)))


class TestModules(unittest.TestCase):
    def test_imports(self):
        own = {f"hueturns.{file.stem}": ast.parse(file.read_text()) for file in FILES}
        for name, _, tree in trees():
            for node in ast.walk(tree):
                if isinstance(node, ast.ImportFrom) and node.module not in LIBRARY:
                    with self.subTest(name=name, module=node.module):
                        self.assertEqual(node.level, 0)
                        self.assertIn(node, tree.body)
                        defined = {each.name for each in own[node.module].body if hasattr(each, "name")}
                        defined |= {each.targets[0].id for each in own[node.module].body
                                    if isinstance(each, ast.Assign)}
                        self.assertEqual([each.name for each in node.names if each.name not in defined], [])
                        self.assertEqual([each.asname for each in node.names if each.asname is not None], [])

    def test_all_imports_are_used(self):
        for name, _, tree in trees():
            imported = {each.name for node in tree.body if isinstance(node, ast.ImportFrom) for each in node.names}
            with self.subTest(name=name):
                self.assertEqual(imported - names_read(tree), set())

    def test_no_circles(self):
        needs = {f"hueturns.{file.stem}": {node.module for node in ast.parse(file.read_text()).body
                                           if isinstance(node, ast.ImportFrom)} - LIBRARY for file in FILES}
        while needs:
            free = [name for name in needs if not needs[name] & set(needs)]
            self.assertTrue(free, needs)
            needs = {name: needs[name] for name in needs if name not in free}

    def test_module_level(self):
        for name, _, tree in trees():
            for at, node in enumerate(tree.body):
                docstring = at == 0 and isinstance(node, ast.Expr) and isinstance(node.value, ast.Constant)
                with self.subTest(name=name, line=node.lineno):
                    self.assertTrue(docstring or isinstance(node, (ast.ImportFrom, ast.FunctionDef, ast.ClassDef,
                                                                   ast.Assign)))

    def test_names(self):
        for name, _, tree in trees():
            bound = list(names_bound(tree))
            for each in bound:
                with self.subTest(name=name, bound=each):
                    self.assertFalse(each.startswith("__") and each not in DUNDERS)
                    self.assertNotIn(each, PYTHONS)
                    self.assertNotIn(each, BARRED_WORDS)

    def test_no_name_of_an_import_is_given_away(self):
        for name, _, tree in trees():
            imported = {each.name for node in tree.body if isinstance(node, ast.ImportFrom) for each in node.names}
            classes = {node.name for node in tree.body if isinstance(node, ast.ClassDef)}
            variables = {each for node in ast.walk(tree) if isinstance(node, ast.FunctionDef)
                         for each in names_bound(node) if each != node.name}
            with self.subTest(name=name):
                self.assertEqual(variables & (imported | classes), set())

    def test_builtins(self):
        for name, _, tree in trees():
            with self.subTest(name=name):
                self.assertEqual((names_read(tree) & PYTHONS) - BUILTINS, set())


class TestRows(unittest.TestCase):
    def test_no_barred_statements(self):
        for name, _, tree in trees():
            for node in ast.walk(tree):
                with self.subTest(name=name, node=node.__class__.__name__):
                    if isinstance(node, ast.Set):
                        self.assertLess(len(node.elts), 3)
                    else:
                        self.assertNotIsInstance(node, BARRED_NODES)

    def test_constants(self):
        for name, _, tree in trees():
            for node in ast.walk(tree):
                if isinstance(node, ast.Constant):
                    with self.subTest(name=name, line=node.lineno):
                        self.assertNotIsInstance(node.value, (float, complex))
                        self.assertFalse(isinstance(node.value, str) and "%" in node.value)

    def test_is_with_none_true_and_false_only(self):
        for name, _, tree in trees():
            for node in ast.walk(tree):
                if isinstance(node, ast.Compare) and isinstance(node.ops[0], (ast.Is, ast.IsNot)):
                    with self.subTest(name=name, line=node.lineno):
                        self.assertIn(ast.unparse(node.comparators[0]), ("None", "True", "False"))

    def test_methods(self):
        own = {node.name for _, _, tree in trees() for node in ast.walk(tree) if isinstance(node, ast.FunctionDef)}
        for name, _, tree in trees():
            for node in ast.walk(tree):
                if isinstance(node, ast.Call) and isinstance(node.func, ast.Attribute):
                    with self.subTest(name=name, line=node.lineno):
                        self.assertIn(node.func.attr, METHODS | own)

    def test_no_generator_expressions(self):
        # Beside a class with __eq__ they are barred from any, all, min, max, sum and sorted.
        for name, _, tree in trees():
            for node in ast.walk(tree):
                with self.subTest(name=name):
                    self.assertNotIsInstance(node, ast.GeneratorExp)

    def test_sets_are_sorted_measured_or_kept(self):
        for name, _, tree in trees():
            for node in ast.walk(tree):
                for each in ast.iter_child_nodes(node):
                    if isinstance(each, (ast.Set, ast.SetComp)) or ast.unparse(each).startswith("set("):
                        with self.subTest(name=name, line=each.lineno):
                            taken = isinstance(node, ast.Call) and ast.unparse(node.func) in ("sorted", "len")
                            kept = isinstance(node, ast.Assign) and isinstance(node.targets[0], ast.Name)
                            self.assertTrue(taken or kept)

    def test_ranges_and_views_are_gone_through_at_once(self):
        for name, _, tree in trees():
            loops = [node.iter for node in ast.walk(tree) if isinstance(node, (ast.For, ast.comprehension))]
            taken = [each for node in ast.walk(tree) if isinstance(node, ast.Call) and isinstance(node.func, ast.Name)
                     for each in node.args if node.func.id in TAKERS]
            for node in ast.walk(tree):
                if isinstance(node, ast.Call) and is_walked(node):
                    with self.subTest(name=name, line=node.lineno):
                        self.assertTrue(any(node is each for each in (*loops, *taken)))

    def test_no_range_is_passed_to_a_function_of_the_package(self):
        for name, _, tree in trees():
            kept = {target.id for node in ast.walk(tree) if isinstance(node, ast.Assign) for target in node.targets
                    if isinstance(target, ast.Name) and isinstance(node.value, ast.Call) and is_walked(node.value)}
            for node in ast.walk(tree):
                if isinstance(node, ast.Call) and not (isinstance(node.func, ast.Name) and node.func.id in PYTHONS):
                    passed = [*node.args, *(each.value for each in node.keywords)]
                    with self.subTest(name=name, line=node.lineno):
                        self.assertEqual([each for each in passed if isinstance(each, ast.Call) and is_walked(each)], [])
                        self.assertEqual([each.id for each in passed if isinstance(each, ast.Name) and each.id in kept],
                                         [])

    def test_properties_and_operators_change_nothing(self):
        names = {function.name for _, function in run_by_signs()}
        self.assertLessEqual({"net", "core_mask", "near_by_hue", "reached_from", "is_name"}, names)
        for name, function in run_by_signs():
            if function.name != "__init__":
                made = made_here(function)
                parameters = {each.arg for each in function.args.args}
                for node in ast.walk(function):
                    with self.subTest(name=name, function=function.name, line=getattr(node, "lineno", None)):
                        self.assertFalse(isinstance(node, ast.Attribute) and not isinstance(node.ctx, ast.Load))
                        if isinstance(node, ast.Subscript) and not isinstance(node.ctx, ast.Load):
                            self.assertIn(base_of(node), made)
                        if isinstance(node, ast.AugAssign):
                            self.assertIsInstance(node.value, ast.Constant)
                        if isinstance(node, ast.Call) and isinstance(node.func, ast.Attribute):
                            self.assertTrue(node.func.attr not in CHANGING or base_of(node.func.value) in made)
                        if isinstance(node, ast.Call) and isinstance(node.func, ast.Name):
                            self.assertNotIn(node.func.id, parameters)

    def test_ends_of_with_statements_and_of_tries(self):
        for name, _, tree in trees():
            ends = [row for each in functions_of(tree) if each.name == "__exit__" for row in each.body]
            ends += [row for node in ast.walk(tree) if isinstance(node, ast.Try) for row in node.finalbody]
            for row in ends:
                with self.subTest(name=name, line=row.lineno):
                    self.assertIsInstance(row, ast.Assign)
                    self.assertIsInstance(row.targets[0], ast.Attribute)
                    self.assertIsInstance(row.value, (ast.Name, ast.Attribute))

    def test_lambdas(self):
        for name, _, tree in trees():
            lambdas = [node for node in ast.walk(tree) if isinstance(node, ast.Lambda)]
            lines = [node.lineno for node in lambdas]
            for function in functions_of(tree):
                names = [each.arg for node in lambdas if node in list(ast.walk(function)) for each in node.args.args]
                with self.subTest(name=name, function=function.name):
                    self.assertEqual(len(set(lines)), len(lines))
                    self.assertEqual(len(set(names)), len(names))

    def test_what_is_given_away_is_not_read(self):
        for name, _, tree in trees():
            with self.subTest(name=name):
                self.assertNotIn("_", names_read(tree))

    def test_stars_stand_over_names_in_calls(self):
        for name, _, tree in trees():
            for node in ast.walk(tree):
                if isinstance(node, ast.Call):
                    for each in node.args:
                        if isinstance(each, ast.Starred):
                            with self.subTest(name=name, line=node.lineno):
                                self.assertIsInstance(each.value, (ast.Name, ast.Attribute))

    def test_decorators(self):
        for name, _, tree in trees():
            for node in ast.walk(tree):
                for each in getattr(node, "decorator_list", []):
                    with self.subTest(name=name, line=node.lineno):
                        self.assertIn(ast.unparse(each), ("property", "staticmethod", "classmethod"))

    def test_no_error_of_pythons_own_is_caught_broadly(self):
        for name, _, tree in trees():
            for node in ast.walk(tree):
                if isinstance(node, ast.ExceptHandler):
                    with self.subTest(name=name, line=node.lineno):
                        self.assertIsNotNone(node.type)
                        self.assertNotIn(ast.unparse(node.type), ("Exception", "TypeError", "ArithmeticError"))

    def test_raised_on_the_spot(self):
        for name, _, tree in trees():
            for node in ast.walk(tree):
                if isinstance(node, ast.Raise) and node.exc is not None:
                    with self.subTest(name=name, line=node.lineno):
                        self.assertIsInstance(node.exc, ast.Call)
                        self.assertIsInstance(node.exc.func, ast.Name)


if __name__ == "__main__":
    unittest.main()
