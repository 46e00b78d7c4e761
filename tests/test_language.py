"""The rules for the package's own code that can be told from its files, and its interface."""

import ast
import builtins
import inspect
import pathlib
import unittest
import warnings

from amidread import (changes, commafree, desk, errors, formats, never, pairs, papers, pieces, readers, rings, stretches,
                      texts, twoformats, words)

FOLDER = pathlib.Path(__file__).resolve().parent.parent / "amidread"
FILES = sorted(path for path in FOLDER.rglob("*") if path.suffix != ".pyc" and path.name != "__pycache__")
BUILTINS = {
    "len", "range", "enumerate", "zip", "min", "max", "sum", "abs", "sorted", "reversed", "int", "str", "bool",
    "list", "tuple", "dict", "set", "isinstance", "ord", "repr", "any", "all", "divmod", "map",
    "property", "classmethod", "staticmethod", "Exception", "ValueError", "TypeError", "KeyError", "NotImplemented",
}
METHODS = {
    "__init__", "__eq__", "__repr__", "__str__", "__len__", "__call__", "__or__", "__contains__",
}
BARRED_NODES = (
    ast.Global, ast.AsyncFunctionDef, ast.AsyncFor, ast.AsyncWith, ast.Await, ast.GeneratorExp, ast.Div,
    ast.Set, ast.AnnAssign, ast.TryStar,
)
BARRED_WORDS = {
    "type", "typing", "enum", "Enum", "register", "mro", "elements", "open", "input", "law", "eval", "exec", "id",
    "globals", "locals", "vars", "dir", "chr", "bytes", "hash", "iter", "next", "format",
}
INTERFACE = {
    errors: {name: None for name in (
        "ReadError", "BadFormat", "BadWord", "BadRecord", "InvalidText", "OtherLetters", "NoReading", "TwoReadings",
        "NotEnough", "NotSure", "NoBook", "EvenLength", "NameTaken", "UnknownName")},
    words: {"is_letters": "thing", "is_word": "letters thing", "words_with": "letters length", "turns": "word",
            "least_turn": "word", "is_repeated": "word"},
    formats: {"Format": "letters states arrows", "parting": "form other"},
    texts: {"is_text": "form thing", "letters_of": "text", "answers_of": "text", "readings": "form word",
            "read": "form word", "words_of": "form", "two_readings": "form"},
    stretches: {"answers": "form ahead behind", "stretches": "form a b"},
    pairs: {"standings": "form", "steps": "form pair", "witnesses": "form", "reach_in": "form pair",
            "reach_out": "form pair", "corners": "form", "is_enough": "form a b"},
    papers: {"sure_paper": "form a b", "enough_holds": "form a b thing", "unsure": "form a b",
             "unsure_holds": "form a b thing"},
    readers: {"Reader": "form a b", "caught": "form a b reader"},
    pieces: {"told_by": "form ahead piece behind begins ends", "told_in_pieces": "form a b word cuts"},
    never: {"never": "form", "never_holds": "form thing", "sides": "paper", "pumped": "form paper times"},
    rings: {"letter_rings": "many length", "record_rings": "lengths", "barred_at": "many lengths",
            "book_with": "letters lengths", "least_many": "lengths", "room": "many lengths length"},
    commafree: {"is_comma_free": "words", "comma_free_book": "letters length", "marked_turn": "letters word"},
    changes: {"fewest_out": "letters words", "out_holds": "letters words thing", "least_marker": "letters words"},
    twoformats: {"least_telling": "form other", "common": "form other n"},
    desk: {"Desk": "form a b"},
}
GENERATORS = {words.words_with, texts.readings, texts.words_of, stretches.stretches}
# Methods of builtin values, and what the package calls its own.
METHODS_OF_VALUES = {
    "append", "copy", "count", "endswith", "extend", "find", "get", "index", "items", "join", "keys", "pop", "replace",
    "rstrip", "setdefault", "split", "startswith", "strip", "values", "add", "bit_length",
}
METHODS_OF_CLASSES = {
    formats.Format: {"kinds_of": "word", "backward": "", "of": "letters records", "book": "letters words",
                     "read": "text", "__contains__": None, "__eq__": None, "__or__": None},
    readers.Reader: {"__call__": "ahead behind", "told": "word"},
    desk.Desk: {"write": "records", "come": "name", "go": "name", "told": "name", "news": "name",
                "spoil": "place letter"},
}
PROPERTIES_OF_CLASSES = {formats.Format: ("kinds", "text"), desk.Desk: ("written",)}
TREES = [(path, ast.parse(path.read_text())) for path in FILES]


def nodes_of(*kinds):
    return [(path.name, node) for path, tree in TREES for node in ast.walk(tree) if isinstance(node, kinds)]


class Files(unittest.TestCase):
    def test_names(self):
        self.assertIn(FOLDER / "__init__.py", FILES)
        for path in FILES:
            self.assertRegex(path.name, "^[a-z_][a-z0-9_]*[.]py$")
            self.assertEqual(path.parent, FOLDER)

    def test_sizes_and_characters(self):
        for path in FILES:
            data = path.read_bytes()
            self.assertTrue(all(32 <= byte <= 126 or byte == 10 for byte in data), path.name)
            lines = data.split(b"\n")
            self.assertLessEqual(len(lines), 400, path.name)
            self.assertLessEqual(max(map(len, lines)), 120, path.name)
        for name, node in nodes_of(ast.FunctionDef):
            self.assertLessEqual(node.end_lineno - node.lineno + 1, 40, (name, node.name))

    def test_no_warnings(self):
        with warnings.catch_warnings():
            warnings.simplefilter("error")
            for path in FILES:
                compile(path.read_text(), str(path), "exec")


class Code(unittest.TestCase):
    def test_imports(self):
        self.assertEqual(nodes_of(ast.Import), [])
        for name, node in nodes_of(ast.ImportFrom):
            self.assertEqual((node.level, node.module.split(".")[0]), (0, "amidread"))
            home = FOLDER / (node.module.split(".")[1] + ".py")
            defined = {part.name for part in ast.parse(home.read_text()).body if hasattr(part, "name")}
            defined |= {target.id for part in ast.parse(home.read_text()).body if isinstance(part, ast.Assign)
                        for target in part.targets}
            for alias in node.names:
                self.assertIn(alias.name, defined)
                self.assertIsNone(alias.asname)

    def test_module_level(self):
        plain = (ast.ImportFrom, ast.FunctionDef, ast.ClassDef, ast.Assign)
        for path, tree in TREES:
            for at, node in enumerate(tree.body):
                docstring = at == 0 and isinstance(node, ast.Expr) and isinstance(node.value, ast.Constant)
                self.assertTrue(docstring or isinstance(node, plain), (path.name, node.lineno))

    def test_nodes(self):
        for name, node in nodes_of(*BARRED_NODES):
            self.fail(f"{name}: line {node.lineno}")
        for name, node in nodes_of(ast.Constant):
            self.assertNotIsInstance(node.value, (float, complex, bytes))
            if isinstance(node.value, str):
                self.assertNotIn(chr(37), node.value)
        for name, node in nodes_of(ast.FunctionDef, ast.ClassDef):
            for decorator in node.decorator_list:
                self.assertIn(ast.unparse(decorator), ("property", "classmethod"))
        for name, node in nodes_of(ast.arg):
            self.assertIsNone(node.annotation)
        for name, node in nodes_of(ast.FunctionDef):
            self.assertIsNone(node.returns)
            if node.name.startswith("__"):
                self.assertIn(node.name, METHODS)

    def test_names(self):
        for name, node in nodes_of(ast.Name, ast.arg, ast.Attribute, ast.FunctionDef, ast.ClassDef):
            word = getattr(node, "id", None) or getattr(node, "arg", None) or getattr(node, "attr", None) or node.name
            self.assertNotIn(word, BARRED_WORDS, (name, node.lineno))
        for path, tree in TREES:
            known = set(BUILTINS)
            for node in ast.walk(tree):
                if isinstance(node, ast.Name) and isinstance(node.ctx, ast.Store):
                    self.assertNotIn(node.id, BUILTINS)
                    known.add(node.id)
                elif isinstance(node, ast.arg):
                    self.assertNotIn(node.arg, BUILTINS)
                    known.add(node.arg)
                elif isinstance(node, (ast.FunctionDef, ast.ClassDef)):
                    known.add(node.name)
                elif isinstance(node, ast.ImportFrom):
                    known |= {alias.name for alias in node.names}
            for node in ast.walk(tree):
                if isinstance(node, ast.Name):
                    self.assertIn(node.id, known, (path.name, node.lineno))

    def test_own_names(self):
        for path, tree in TREES:
            taken = set(dir(builtins))
            for node in tree.body:
                if isinstance(node, ast.ImportFrom):
                    taken |= {alias.name for alias in node.names}
                elif isinstance(node, ast.ClassDef):
                    taken.add(node.name)
            for node in ast.walk(tree):
                if isinstance(node, ast.arg):
                    self.assertNotIn(node.arg, taken, path.name)
                elif isinstance(node, ast.Name) and isinstance(node.ctx, ast.Store):
                    self.assertNotIn(node.id, taken, path.name)

    def test_methods_are_known(self):
        own = {node.name for name, node in nodes_of(ast.FunctionDef)}
        for name, node in nodes_of(ast.Call):
            if isinstance(node.func, ast.Attribute):
                self.assertIn(node.func.attr, own | METHODS_OF_VALUES, (name, node.lineno))

    def test_attributes_are_assigned(self):
        assigned = {node.attr for name, node in nodes_of(ast.Attribute) if isinstance(node.ctx, ast.Store)}
        called = {node.func for name, node in nodes_of(ast.Call)}
        shown = {node.name for name, node in nodes_of(ast.FunctionDef) if node.decorator_list}
        for name, node in nodes_of(ast.Attribute):
            if isinstance(node.ctx, ast.Load) and node not in called:
                self.assertIn(node.attr, assigned | shown, (name, node.lineno))

    def test_generators_are_gone_through_at_once(self):
        made = {node.name for name, node in nodes_of(ast.FunctionDef)
                if any(isinstance(part, (ast.Yield, ast.YieldFrom)) for part in ast.walk(node))}
        self.assertEqual(len(made), len([node for name, node in nodes_of(ast.FunctionDef) if node.name in made]))
        at_once = set()
        for name, node in nodes_of(ast.For, ast.comprehension, ast.YieldFrom):
            at_once.add(node.value if isinstance(node, ast.YieldFrom) else node.iter)
        for name, node in nodes_of(ast.Call):
            if isinstance(node.func, ast.Name) and node.func.id in made:
                self.assertTrue(node in at_once, (name, node.lineno))
                for part in node.args:
                    self.assertIsInstance(part, (ast.Name, ast.Attribute, ast.Constant))

    def test_sets_are_not_gone_through(self):
        for path, tree in TREES:
            around = {child: node for node in ast.walk(tree) for child in ast.iter_child_nodes(node)}
            for node in ast.walk(tree):
                made = isinstance(node, ast.Call) and isinstance(node.func, ast.Name) and node.func.id == "set"
                if isinstance(node, ast.SetComp) or made:
                    use = around[node]
                    kept = isinstance(use, ast.Assign) and isinstance(use.targets[0], ast.Name)
                    sorted_at_once = isinstance(use, ast.Call) and use.func.id in ("sorted", "len")
                    self.assertTrue(kept or sorted_at_once or isinstance(use, ast.Compare), (path.name, node.lineno))

    def test_own_errors_are_caught(self):
        own = set(INTERFACE[errors])
        for name, node in nodes_of(ast.ExceptHandler):
            self.assertIn(ast.unparse(node.type), own)


class Interface(unittest.TestCase):
    def test_functions_and_classes(self):
        for module, names in INTERFACE.items():
            for name, parameters in names.items():
                made = getattr(module, name)
                self.assertEqual(made.__module__, module.__name__)
                if parameters is not None:
                    self.assertEqual(" ".join(inspect.signature(made).parameters), parameters)

    def test_generators(self):
        for module, names in INTERFACE.items():
            for name in names:
                made = getattr(module, name)
                self.assertEqual(inspect.isgeneratorfunction(made), made in GENERATORS, name)

    def test_no_circle_of_imports(self):
        needs = {path.stem: {node.module.split(".")[1] for node in ast.walk(tree) if isinstance(node, ast.ImportFrom)}
                 for path, tree in TREES}
        while needs:
            free = {name for name, wanted in needs.items() if not wanted & set(needs)}
            self.assertTrue(free, needs)
            needs = {name: wanted for name, wanted in needs.items() if name not in free}

    def test_methods_of_classes(self):
        for made, methods in METHODS_OF_CLASSES.items():
            own = vars(made)
            self.assertIn("__init__", own)
            for name, parameters in methods.items():
                self.assertIn(name, own)
                if parameters is not None:
                    found = list(inspect.signature(getattr(made, name)).parameters)
                    self.assertEqual(" ".join(word for word in found if word != "self"), parameters)
        for made, names in PROPERTIES_OF_CLASSES.items():
            for name in names:
                self.assertIsInstance(vars(made)[name], property)

    def test_by_name_only(self):
        for made, name in ((pieces.told_by, "begins"), (pieces.told_by, "ends")):
            parameter = inspect.signature(made).parameters[name]
            self.assertIs(parameter.kind, parameter.KEYWORD_ONLY)
            self.assertIs(parameter.default, False)
