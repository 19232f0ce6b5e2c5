"""The rules of the language that a look at the text can check, and the names of the interface."""

import ast
import builtins
import pathlib
import re
import unittest

FOLDER = pathlib.Path(__file__).resolve().parent.parent / "pinnedheap"
ALLOWED_BUILTINS = set("""len range enumerate zip min max sum abs sorted reversed int str bool list tuple dict set isinstance
    ord repr any all divmod iter next Exception ValueError TypeError KeyError IndexError LookupError ZeroDivisionError
    ArithmeticError OverflowError RuntimeError NotImplementedError NotImplemented""".split())
BARRED_WORDS = """type typing typing_extensions enum Enum IntEnum StrEnum Flag IntFlag Generic Protocol ABC ABCMeta
    namedtuple NamedTuple TypedDict TYPE_CHECKING abstractmethod""".split()
BARRED_PARTS = ("dataclass", "overload", "contextmanager")
INTERFACE = {
    "chains": {"is_chain": ["value"], "class_of": ["chain", "size"], "rounded": ["chain", "words"], "chains_of": ["page"]},
    "states": {
        "is_state": ["chain", "pages", "value"], "live_words": ["state"], "places": ["chain", "pages", "state", "size"],
        "with_block": ["state", "address", "size"], "without_block": ["state", "address"], "used_pages": ["chain", "state"],
        "reaches": ["chain", "state"], "keepers": ["chain", "state", "size"], "count_states": ["chain", "pages"],
        "all_states": ["chain", "pages", "limit"],
    },
    "bounds": {
        "bounds": ["chain", "limit"], "pages_needed": ["chain", "limit"], "outlook": ["chain", "limit", "state"],
        "careless_pages": ["chain", "limit"],
    },
    "rules": {"place": ["rule", "chain", "pages", "state", "size"], "allocator": ["rule", "chain", "pages"]},
    "heaps": {"replay": ["chain", "pages", "limit", "history"]},
    "pressure": {
        "exhaust": ["chain", "limit", "pages", "allocate"], "shows_exhaustion": ["chain", "limit", "pages", "value"],
    },
    "receipts": {
        "receipt": ["chain", "state", "size", "address"], "shows_receipt": ["chain", "state", "size", "address", "value"],
        "shown_words": ["chain", "state", "size", "address"],
    },
    "games": {
        "is_safe": ["chain", "limit", "pages", "state"], "moves_to_fail": ["chain", "limit", "pages", "state"],
        "plan": ["chain", "limit", "pages", "state"], "shows_plan": ["chain", "limit", "pages", "state", "value"],
        "strategy": ["chain", "limit", "pages", "state"], "shows_strategy": ["chain", "limit", "pages", "state", "value"],
    },
    "growing": {
        "open_after": ["chain", "limit", "rule", "history"], "worst_pages": ["chain", "limit", "rule"],
        "worst_history": ["chain", "limit", "rule"],
    },
    "sizing": {
        "most_live": ["chain", "words"], "request_mix": ["chain", "words"], "enough_pages": ["chain", "words"],
        "best_chain": ["page", "words"],
    },
    "showing": {"show_chain": ["chain"], "show_state": ["state"], "show_history": ["history"]},
    "reading": {"read_chain": ["text"], "read_state": ["chain", "pages", "text"], "read_history": ["chain", "text"]},
}
# Of each class: its file, the parameters of its constructor, those by name only, and its methods with theirs.
CLASSES = {
    "Heap": ("heaps", ["chain", "pages", "limit"], ["rule"], {
        "get": ["size"], "put": ["address", "size"], "free": ["address"], "undo": [], "state": [], "live": [], "outlook": [],
        "history": [], "copy": [], "__len__": [],
    }),
    "Desk": ("desk", ["text"], [], {"say": ["line"]}),
    "Pressure": ("pressure", ["chain", "limit"], [], {"request": [], "answer": ["answer"], "state": [], "phase": []}),
}


def sources():
    return {path.name: path.read_text(encoding="utf-8") for path in sorted(FOLDER.glob("*.py"))}


def nodes(kind):
    """Return pairs (file name, node) of all nodes of a kind in the package."""
    return [(name, node) for name, text in sources().items() for node in ast.walk(ast.parse(text)) if isinstance(node, kind)]


def bound_names(node):
    """Return the names that this node gives to something."""
    if isinstance(node, (ast.FunctionDef, ast.ClassDef)):
        return [node.name]
    if isinstance(node, ast.arg):
        return [node.arg]
    if isinstance(node, ast.Name) and isinstance(node.ctx, ast.Store):
        return [node.id]
    return []


def imported_names(file):
    """Return the names that a file imports."""
    return {alias.asname or alias.name for name, node in nodes(ast.ImportFrom) if name == file for alias in node.names}


class Language(unittest.TestCase):
    def test_folder_holds_plain_files_only(self):
        for path in FOLDER.iterdir():
            if path.name != "__pycache__":
                self.assertRegex(path.name, r"^(__init__|__main__|[a-z][a-z0-9_]*)\.py$")

    def test_characters_and_lengths(self):
        for name, text in sources().items():
            with self.subTest(file=name):
                self.assertIsNone(re.search(r"[^ -~\n]", text))
                self.assertLessEqual(len(text.splitlines()), 399)
                self.assertLessEqual(max(len(line) for line in text.splitlines()), 120)

    def test_functions_are_short(self):
        for name, node in nodes(ast.FunctionDef):
            self.assertLessEqual(node.end_lineno - node.lineno + 1, 40, (name, node.name))

    def test_barred_words(self):
        for name, text in sources().items():
            for word in BARRED_WORDS:
                self.assertIsNone(re.search(rf"\b{word}\b", text), (name, word))
            for part in BARRED_PARTS:
                self.assertNotIn(part, text, name)

    def test_imports(self):
        self.assertEqual(nodes(ast.Import), [])
        for name, node in nodes(ast.ImportFrom):
            self.assertEqual(node.level, 0, name)
            self.assertRegex(node.module, r"^pinnedheap\.[a-z_]+$", name)
            defined = ast.parse(sources()[node.module.split(".")[1] + ".py"]).body
            names = [item.name for item in defined if isinstance(item, (ast.FunctionDef, ast.ClassDef))]
            for alias in node.names:
                self.assertIn(alias.name, names, name)

    def test_names(self):
        for name, node in nodes((ast.FunctionDef, ast.ClassDef, ast.arg, ast.Name)):
            for bound in bound_names(node):
                self.assertRegex(bound, r"^([A-Za-z][A-Za-z0-9_]*|__[a-z]+__)$", name)
                self.assertTrue(bound.startswith("__") or not hasattr(builtins, bound), (name, bound))

    def test_builtins(self):
        for name, node in nodes(ast.Name):
            if isinstance(node.ctx, ast.Load) and hasattr(builtins, node.id):
                self.assertIn(node.id, ALLOWED_BUILTINS, name)

    def test_numbers_and_signs(self):
        for name, node in nodes(ast.Constant):
            self.assertNotIsInstance(node.value, (float, complex), name)
            if isinstance(node.value, str):
                self.assertNotIn("%", node.value, name)
        for name, node in nodes(ast.BinOp):
            self.assertNotIsInstance(node.op, ast.Div, name)
            if isinstance(node.op, ast.Pow):
                self.assertIsInstance(node.right, ast.Constant, name)

    def test_no_name_has_two_meanings(self):
        methods = {item.name for name, node in nodes(ast.ClassDef) for item in node.body if isinstance(item, ast.FunctionDef)}
        assigned = {node.attr for name, node in nodes(ast.Attribute) if isinstance(node.ctx, ast.Store)}
        self.assertEqual(methods & assigned, set())
        for name, node in nodes(ast.FunctionDef):
            given = {bound for item in ast.walk(node) if isinstance(item, (ast.arg, ast.Name)) for bound in bound_names(item)}
            self.assertEqual(given & imported_names(name), set(), (name, node.name))

    def test_no_two_files_import_from_each_other(self):
        imports = {name: [] for name in sources()}
        for name, node in nodes(ast.ImportFrom):
            imports[name].append(node.module.split(".")[1] + ".py")
        while imports:
            ready = [name for name in imports if not any(other in imports for other in imports[name])]
            self.assertTrue(ready, imports)
            imports = {name: others for name, others in imports.items() if name not in ready}

    def test_errors_that_are_caught_and_raised(self):
        own = {node.name for name, node in nodes(ast.ClassDef) if name == "errors.py"}
        for name, node in nodes(ast.ExceptHandler):
            self.assertIn(node.type.id, own, name)
        for name, node in nodes(ast.Raise):
            self.assertIn(node.exc.func.id, own, name)

    def test_is(self):
        for name, node in nodes(ast.Compare):
            for sign, right in zip(node.ops, node.comparators):
                if isinstance(sign, (ast.Is, ast.IsNot)):
                    self.assertIsInstance(right, ast.Constant, name)
                    self.assertIn(str(right.value), ("None", "True", "False"), name)

    def test_statements(self):
        self.assertEqual(nodes((ast.Global, ast.AsyncFunctionDef, ast.Await)), [])


class Interface(unittest.TestCase):
    def test_functions_stand_in_their_files_with_their_parameters(self):
        for module, functions in INTERFACE.items():
            body = ast.parse(sources()[module + ".py"]).body
            found = {item.name: item for item in body if isinstance(item, ast.FunctionDef)}
            for name, parameters in functions.items():
                with self.subTest(module=module, name=name):
                    self.assertEqual([item.arg for item in found[name].args.args], parameters)

    def test_classes_stand_in_their_files_with_their_methods(self):
        for name, (module, parameters, named, methods) in CLASSES.items():
            body = ast.parse(sources()[module + ".py"]).body
            bodies = {item.name: item.body for item in body if isinstance(item, ast.ClassDef)}
            found = {item.name: item.args for item in bodies[name] if isinstance(item, ast.FunctionDef)}
            self.assertEqual([item.arg for item in found["__init__"].args], ["self", *parameters])
            self.assertEqual([item.arg for item in found["__init__"].kwonlyargs], named)
            for method, taken in methods.items():
                with self.subTest(name=name, method=method):
                    self.assertEqual([item.arg for item in found[method].args], ["self", *taken])


if __name__ == "__main__":
    unittest.main()
