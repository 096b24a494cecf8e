"""The form of the package: the interface's names, and the rules of LANGUAGE.md that a reader of the code can check."""

import ast
import builtins
import doctest
import importlib
import inspect
import pathlib
import re
import unittest
import warnings

PACKAGE = pathlib.Path(__file__).resolve().parent.parent / "savedseats"
FILES = sorted(PACKAGE.glob("*.py"))

# For each module that has landed: functions with their arguments, and classes with theirs and with
# what they must define themselves. The errors are looked at in test_errors.py.
INTERFACE = {
    "webs": {
        "Web": (
            ["places", "edges", "entry", "exits"],
            {"__eq__": ["other"], "gates": None, "ends": ["gate"], "gate_in": [], "gate_out": ["place"]},
        ),
    },
    "ways": {"places_of": ["web", "way"], "steps_of": ["web", "way"]},
    "lots": {
        "Lot": (
            ["places"],
            {
                "__le__": ["other"], "__or__": ["other"], "__and__": ["other"], "__sub__": ["other"],
                "__contains__": ["place"], "__len__": [], "__eq__": ["other"], "__iter__": [],
            },
        ),
        "Placing": (["saves", "backs"], {"__eq__": ["other"], "__len__": []}),
        "placing_of": ["web", "lot"],
        "played": ["web", "uses", "placing", "way"],
    },
    "verdicts": {
        "Verdict": (["right", "paper"], {"__bool__": []}),
        "judge": ["web", "uses", "placing"],
        "shows_right": ["web", "uses", "placing", "lot"],
        "shows_wrong": ["web", "uses", "placing", "way"],
    },
    "prices": {
        "Prices": (
            ["web", "saves", "backs"],
            {
                "__getitem__": ["at"], "__add__": ["other"], "__eq__": ["other"],
                "with_price": ["gate", "word", "price"],
            },
        ),
        "cost": ["web", "lot", "prices"],
    },
    "flows": {
        "arcs": ["web"],
        "arc_ends": ["web", "arc"],
        "value_of": ["web", "uses", "prices", "flow"],
        "shows_least": ["web", "uses", "prices", "lot", "flow"],
        "shows_barred": ["web", "uses", "prices", "row"],
    },
    "leastcost": {"Least": (["cost", "lot", "flow", "row"], {}), "least": ["web", "uses", "prices"]},
    "best": {"best_lots": ["web", "uses", "prices"], "count_best": ["web", "uses", "prices"]},
    "bends": {
        "Bend": (["paying", "other"], {"price": None, "at": ["p"]}),
        "bend": ["web", "uses", "prices", "gate", "word"],
    },
    "onway": {
        "Most": (["number", "paper"], {}),
        "most_saves": ["web", "lot"],
        "shows_most": ["web", "lot", "number", "paper"],
    },
    "trying": {
        "is_steady": ["web", "lot"],
        "is_keen": ["web", "uses", "lot"],
        "least_tried": ["web", "uses", "prices", "steady", "keen"],
    },
    "dearer": {
        "Answer": (["found", "paper"], {"__bool__": []}),
        "along": ["web", "prices", "lot", "way"],
        "dearer": ["web", "prices", "first", "second"],
        "shows_dearer": ["web", "prices", "first", "second", "paper"],
        "shows_never": ["web", "prices", "first", "second", "paper"],
    },
    "tasks": {
        "Task": (["web", "seats", "prices"], {"__eq__": ["other"], "uses": ["name"], "total": []}),
        "edited": ["task", "edit"],
        "mending": ["task", "menu", "bound"],
    },
    "table": {
        "Table": (
            ["start"],
            {
                "task": None, "deeds": None, "__getitem__": ["name"], "__setitem__": ["name", "places"],
                "edit": ["change"], "undo": [], "total": [], "lots": [],
            },
        ),
        "run_deeds": ["table", "deeds"],
        "preview": ["table", "deeds"],
    },
    "texts": {
        "write_web": ["web"],
        "read_web": ["text"],
        "write_prices": ["prices"],
        "read_prices": ["web", "text"],
        "write_placing": ["placing"],
        "read_placing": ["text"],
    },
    "console": {"console": ["lines"]},
}

BUILTINS = set(
    "len range enumerate zip min max sum abs sorted reversed int str bool bytes list tuple dict set frozenset"
    " isinstance ord repr any all divmod pow getattr hasattr setattr iter next map Exception ValueError TypeError"
    " KeyError IndexError LookupError ZeroDivisionError ArithmeticError OverflowError RuntimeError"
    " NotImplementedError AttributeError StopIteration NotImplemented property staticmethod classmethod super"
    .split()
)
LIBRARY = {"heapq", "math", "itertools", "collections"}
BARRED_NODES = (
    ast.Import, ast.Global, ast.AsyncFunctionDef, ast.AsyncFor, ast.AsyncWith, ast.Await, ast.Div, ast.MatMult,
)
DECORATORS = ("property", "staticmethod", "classmethod")
BARRED_NAMES = set(
    "register mro elements open input law version_info with_traceback add_note attrgetter breakpoint builtins"
    " compile copyright credits delattr dir eval exec exit gc globals help id importlib license locals"
    " methodcaller os quit type vars sys".split()
)
BARRED_WORDS = re.compile(
    r"\b(typing|typing_extensions|enum|Enum|IntEnum|StrEnum|Flag|IntFlag|Generic|Protocol|ABC|ABCMeta|namedtuple"
    r"|NamedTuple|TypedDict|TYPE_CHECKING|abstractmethod)\b|dataclass|overload|contextmanager|_wall|_WallAttr"
)
METHODS = set(
    "__init__ __eq__ __repr__ __str__ __len__ __enter__ __exit__ __call__ __iter__ __lt__ __le__ __gt__ __ge__"
    " __ne__ __add__ __sub__ __mul__ __floordiv__ __mod__ __pow__ __and__ __or__ __xor__ __lshift__ __rshift__"
    " __neg__ __pos__ __invert__ __abs__ __bool__ __contains__ __getitem__ __setitem__".split()
)


CHANGING = set("append clear extend insert pop remove reverse setdefault update add discard".split())


def names_in(node):
    """The names that an expression reads."""
    return {inner.id for inner in ast.walk(node) if isinstance(inner, ast.Name)}


def same_values(function):
    """Sets of names that may stand for one value, since one is assigned to another, in either order."""
    groups = []
    for node in ast.walk(function):
        if isinstance(node, ast.Assign) and isinstance(node.value, (ast.Name, ast.IfExp, ast.BoolOp)):
            groups.append(names_in(node.value).union(*[names_in(target) for target in node.targets]))
    return groups


def changed_names(rows):
    """The names of lists and dicts that some statements change."""
    found = set()
    for node in [inner for row in rows for inner in ast.walk(row)]:
        if isinstance(node, ast.Call) and isinstance(node.func, ast.Attribute) and node.func.attr in CHANGING:
            found |= names_in(node.func.value)
        if isinstance(node, ast.Subscript) and isinstance(node.ctx, (ast.Store, ast.Del)):
            found |= names_in(node.value)
    return found


def bound_names(node):
    """The names that a node binds or passes by keyword."""
    if isinstance(node, ast.Name) and isinstance(node.ctx, (ast.Store, ast.Del)):
        return [node.id]
    if isinstance(node, (ast.arg, ast.keyword)):
        return [node.arg] if node.arg else []
    if isinstance(node, (ast.FunctionDef, ast.ClassDef, ast.ExceptHandler)):
        return [node.name] if node.name else []
    return []


def each_node():
    """The nodes of all files, each with where it stands."""
    for path in FILES:
        for node in ast.walk(ast.parse(path.read_text())):
            yield f"{path.name}:{getattr(node, 'lineno', 1)}", node


class TestInterface(unittest.TestCase):
    def test_names_arguments_and_places(self):
        for file, listed in INTERFACE.items():
            module = importlib.import_module("savedseats." + file)
            for name, told in listed.items():
                with self.subTest(name):
                    self.assertEqual(getattr(module, name).__module__, module.__name__)
                    if inspect.isclass(getattr(module, name)):
                        self.check_class(getattr(module, name), *told)
                    else:
                        self.assertEqual(list(inspect.signature(getattr(module, name)).parameters), told)

    def check_class(self, made, arguments, methods):
        self.assertEqual(list(inspect.signature(made).parameters), arguments)
        for name, told in methods.items():
            method = vars(made)[name]
            if told is None:
                self.assertIsInstance(method, property)
            else:
                self.assertEqual(list(inspect.signature(method).parameters), ["self"] + told)


class TestReadme(unittest.TestCase):
    def test_examples_hold(self):
        done = doctest.testfile(str(PACKAGE.parent / "README.md"), module_relative=False)
        self.assertGreater(done.attempted, 0)
        self.assertEqual(done.failed, 0)


class TestForm(unittest.TestCase):
    def test_folder_holds_plain_files_only(self):
        for path in PACKAGE.iterdir():
            if path.name != "__pycache__":
                self.assertRegex(path.name, r"^[a-z0-9_]+\.py$")
        self.assertIn("__init__.py", [path.name for path in FILES])

    def test_characters_and_sizes(self):
        for path in FILES:
            with self.subTest(path.name):
                text = path.read_bytes().decode("ascii")
                self.assertRegex(text, r"\A[ -~\n]*\Z")
                self.assertLessEqual(text.count("\n"), 399)
                self.assertLessEqual(max(map(len, text.split("\n"))), 120)

    def test_functions_have_at_most_40_lines(self):
        for where, node in each_node():
            if isinstance(node, ast.FunctionDef):
                self.assertLessEqual(node.end_lineno - node.lineno + 1, 40, where)

    def test_no_warnings(self):
        with warnings.catch_warnings():
            warnings.simplefilter("error")
            for path in FILES:
                compile(path.read_text(), path.name, "exec")

    def test_module_level(self):
        for path in FILES:
            bound = []
            for node in ast.parse(path.read_text()).body:
                self.assertIsInstance(
                    node, (ast.Expr, ast.ImportFrom, ast.FunctionDef, ast.ClassDef, ast.Assign), path.name
                )
                if isinstance(node, ast.Expr):
                    self.assertIsInstance(node.value, ast.Constant)
                bound += [alias.name for alias in getattr(node, "names", [])]
                bound += [name for inner in [node, *getattr(node, "targets", [])] for name in bound_names(inner)]
            self.assertEqual(sorted(bound), sorted(set(bound)), path.name)

    def test_imports_name_the_very_file(self):
        for where, node in each_node():
            if isinstance(node, ast.ImportFrom) and node.module not in LIBRARY:
                self.assertEqual((node.level, node.module.split(".")[0]), (0, "savedseats"), where)
                module = importlib.import_module(node.module)
                for alias in node.names:
                    home = getattr(getattr(module, alias.name), "__module__", module.__name__)
                    self.assertEqual((home, alias.asname), (module.__name__, None), where)

    def test_statements_and_values(self):
        for where, node in each_node():
            self.assertNotIsInstance(node, BARRED_NODES, where)
            if isinstance(node, ast.ExceptHandler):
                self.assertIsNotNone(node.type, where)
            if isinstance(node, ast.Constant):
                self.assertNotIsInstance(node.value, (float, complex), where)
                if isinstance(node.value, str):
                    self.assertNotIn("%", node.value, where)
            if isinstance(node, ast.ClassDef):
                self.assertEqual((node.decorator_list, node.keywords), ([], []), where)
            if isinstance(node, ast.FunctionDef):
                for decorator in node.decorator_list:
                    self.assertTrue(
                        isinstance(decorator, ast.Attribute) and decorator.attr == "setter"
                        or isinstance(decorator, ast.Name) and decorator.id in DECORATORS,
                        where,
                    )

    def test_names(self):
        for where, node in each_node():
            if isinstance(node, ast.Name) and isinstance(node.ctx, ast.Load) and node.id in vars(builtins):
                self.assertIn(node.id, BUILTINS, where)
            for name in bound_names(node):
                self.assertRegex(name, r"\A_?[A-Za-z][A-Za-z0-9_]*\Z|\A_\Z|\A__[a-z]+__\Z", where)
                self.assertNotIn(name, BARRED_NAMES, where)
                self.assertTrue(name in METHODS or not name.startswith("__"), where)
                if not isinstance(node, ast.keyword):
                    self.assertNotIn(name, vars(builtins), where)

    def test_names_of_imports_are_not_bound_again(self):
        for path in FILES:
            tree = ast.parse(path.read_text())
            imported = {
                alias.name for node in tree.body if isinstance(node, ast.ImportFrom) for alias in node.names
            }
            for node in ast.walk(tree):
                if not isinstance(node, ast.keyword):
                    for name in bound_names(node):
                        self.assertNotIn(name, imported, f"{path.name}:{getattr(node, 'lineno', 1)}")

    def test_what_lots_bar(self):
        # Lots have an order of their own, and both a length and an iteration.
        for where, node in each_node():
            if isinstance(node, ast.ImportFrom):
                self.assertNotIn(node.module, ("heapq", "itertools"), where)
            if isinstance(node, ast.Attribute):
                self.assertNotEqual(node.attr, "sort", where)
            if isinstance(node, ast.GeneratorExp):
                self.fail(where)
            if isinstance(node, ast.AugAssign):
                self.assertIsInstance(node.value, ast.Constant, where)
            if isinstance(node, ast.Call) and isinstance(node.func, ast.Name):
                self.assertNotIn(node.func.id, ("min", "max", "reversed"), where)
                if node.func.id == "sorted":
                    self.assertEqual((node.args[0].func.id, node.keywords), ("set", []), where)

    def test_no_name_is_both_a_method_and_an_attribute(self):
        methods, attributes = set(), set()
        for _, node in each_node():
            if isinstance(node, ast.ClassDef):
                methods |= {inner.name for inner in node.body if isinstance(inner, ast.FunctionDef)}
            if isinstance(node, ast.Attribute) and isinstance(node.ctx, (ast.Store, ast.Del)):
                attributes.add(node.attr)
        self.assertEqual(methods & attributes, set())
        for _, node in each_node():
            if isinstance(node, ast.Attribute) and node.attr.startswith("__"):
                self.assertIn(node.attr, ("__class__", "__name__"))
        self.assertNotIn("keys", methods | attributes)

    def test_what_a_loop_iterates_over_is_not_changed_in_it(self):
        for path in FILES:
            for function in ast.walk(ast.parse(path.read_text())):
                if not isinstance(function, ast.FunctionDef):
                    continue
                groups = same_values(function)
                for loop in [node for node in ast.walk(function) if isinstance(node, ast.For)]:
                    walked = names_in(loop.iter)
                    for _ in groups:
                        walked = walked.union(*[group for group in groups if group & walked])
                    self.assertEqual(walked & changed_names(loop.body), set(), f"{path.name}:{loop.lineno}")

    def test_words(self):
        for path in FILES:
            self.assertIsNone(BARRED_WORDS.search(path.read_text()), path.name)


if __name__ == "__main__":
    unittest.main()
