"""The interface as DOC.md lists it, and the rules of LANGUAGE.md that can be checked quickly."""

import ast
import importlib
import inspect
import pathlib
import re
import unittest

PACKAGE = pathlib.Path(__file__).resolve().parent.parent / "ownwords"

# For each file its functions and classes, with the parameters of the functions.
INTERFACE = {
    "errors": {
        "NoHistory": None, "NoBook": None, "NoPlace": None, "NoRow": None, "NoName": None, "NoWorld": None,
        "NoSorting": None, "NoSheets": None, "TooMany": None,
    },
    "histories": {"played": "(history)", "person_at": "(history, name, place)"},
    "books": {"places": "(book)", "ties": "(book)"},
    "foldings": {
        "lots": "(book, *, put=())", "lots_behind": "(book, steps, *, put=())", "are_steps": "(book, thing, *, put=())",
    },
    "clashes": {
        "clash_of": "(book, *, put=())", "fold_paper": "(book, *, put=())",
        "is_clash": "(book, steps, thing, *, put=())",
    },
    "worlds": {"history_of": "(book)", "is_history_of": "(book, thing)"},
    "verdicts": {
        "who": "(book, one, other)", "could_be": "(book, pairs)", "word_at": "(book, place, word, row)",
    },
    "judges": {
        "is_one": "(book, one, other, thing)", "is_two": "(book, one, other, thing)",
        "is_open": "(book, one, other, thing)", "is_never": "(book, pairs, thing)",
    },
    "bills": {"bill": "(book)", "gained": "(book)"},
    "sortings": {
        "sortings": "(book)", "counts": "(book)", "barred": "(book)", "sorting_paper": "(book, sorting)",
        "common": "(one, two)", "is_sorting_paper": "(book, sorting, thing)",
    },
    "doings": {
        "knows": "(book, one, other)", "doings": "(book)", "happened": "(book, i, j)",
        "is_knowing": "(book, one, other, thing)",
    },
    "several": {
        "could": "(books, wishes)", "known": "(books, wish)", "fits": "(books, thing)", "is_barred": "(books, wishes, thing)",
    },
    "sheets": {"sheeted": "(history, k, shifts)", "shift_of": "(history, k, shifts, name, way)"},
    "house": {"House": None},
}

METHODS = {
    "__init__": "(self, people, owners)", "do": "(self, event)", "history": "(self)", "book": "(self, name)",
    "lots": "(self, name)", "known": "(self, name, one, other)",
}

BARRED_NAMES = ("register", "mro", "elements", "open", "input", "law", "version_info", "with_traceback", "add_note")
BARRED_WORDS = ("typing", "enum", "Enum", "Generic", "Protocol", "ABC", "namedtuple", "NamedTuple", "dataclass", "overload")


def sources():
    """The names and texts of the files of the package."""
    return {path.name: path.read_text(encoding="utf-8") for path in sorted(PACKAGE.glob("*.py"))}


class InterfaceTest(unittest.TestCase):
    def test_every_name_is_defined_in_its_file(self):
        for file, names in INTERFACE.items():
            module = importlib.import_module("ownwords." + file)
            tree = ast.parse((PACKAGE / (file + ".py")).read_text(encoding="utf-8"))
            defined = {node.name: node for node in tree.body if isinstance(node, (ast.FunctionDef, ast.ClassDef))}
            for name, parameters in names.items():
                with self.subTest((file, name)):
                    self.assertIsInstance(defined[name], ast.FunctionDef if parameters else ast.ClassDef)
                    self.assertEqual(getattr(module, name).__module__, module.__name__)
                    if parameters:
                        self.assertEqual(str(inspect.signature(getattr(module, name))), parameters)


    def test_the_methods_of_a_house_are_its_own(self):
        house = importlib.import_module("ownwords.house").House
        for name, parameters in METHODS.items():
            self.assertIn(name, vars(house))
            self.assertEqual(str(inspect.signature(vars(house)[name])), parameters)

    def test_there_is_nothing_else_to_land(self):
        text = (PACKAGE.parent.parent / "shared" / "DOC.md")
        if text.exists():
            listed = set(re.findall(r"^## ownwords/([a-z]+)\.py$", text.read_text(encoding="utf-8"), re.M))
            self.assertEqual(listed, set(INTERFACE))


class LanguageTest(unittest.TestCase):
    def test_files(self):
        self.assertIn("__init__.py", sources())
        for path in PACKAGE.iterdir():
            if path.name != "__pycache__":
                self.assertRegex(path.name, r"^[a-z0-9_]+\.py$")

    def test_sizes_and_characters(self):
        for name, text in sources().items():
            lines = text.split("\n")
            self.assertLessEqual(len(lines) - 1, 399, name)
            for number, line in enumerate(lines, 1):
                self.assertLessEqual(len(line), 120, (name, number))
                self.assertRegex(line, r"^[ -~]*$", (name, number))
            for node in ast.walk(ast.parse(text)):
                if isinstance(node, ast.FunctionDef):
                    self.assertLessEqual(node.end_lineno - node.lineno + 1, 40, (name, node.name))

    def test_imports_name_the_file_that_defines_the_name(self):
        found = {}
        for name, text in sources().items():
            found[name[:-3]] = []
            for node in ast.walk(ast.parse(text)):
                self.assertNotIsInstance(node, ast.Import, name)
                if isinstance(node, ast.ImportFrom):
                    if node.module == "itertools":
                        continue
                    self.assertTrue(node.module.startswith("ownwords."), name)
                    file = node.module.partition(".")[2]
                    found[name[:-3]].append(file)
                    tree = ast.parse((PACKAGE / (file + ".py")).read_text(encoding="utf-8"))
                    bound = [getattr(inner, "name", None) for inner in tree.body]
                    bound += [inner.targets[0].id for inner in tree.body if isinstance(inner, ast.Assign)]
                    for alias in node.names:
                        self.assertIsNone(alias.asname, name)
                        self.assertIn(alias.name, bound, name)
        self.check_no_circle(found)

    def check_no_circle(self, found):
        """Takes away the files that import none of the others left, until none is left."""
        left = dict(found)
        while left:
            free = [name for name, files in left.items() if not any(file in left for file in files)]
            self.assertTrue(free, left)
            for name in free:
                del left[name]

    def test_barred_names_and_words(self):
        builtins = dir(importlib.import_module("builtins"))
        for file, text in sources().items():
            for node in ast.walk(ast.parse(text)):
                for name in self.names_of(node):
                    self.assertNotIn(name, BARRED_NAMES, file)
                    if not isinstance(node, ast.Attribute):
                        self.assertNotIn(name, builtins, file)
                self.assertNotIsInstance(node, (ast.Global, ast.AsyncFunctionDef, ast.Await, ast.Set), file)
            for word in BARRED_WORDS:
                self.assertIsNone(re.search(r"\b" + word + r"\b", text), (file, word))
            for node in ast.walk(ast.parse(text)):
                if isinstance(node, ast.Constant) and isinstance(node.value, str):
                    self.assertNotIn("%", node.value, file)

    def test_names_mean_one_thing_each(self):
        methods, attributes = {}, {}
        values = [dir(kind) for kind in (str, int, list, dict, set, bytes, tuple)]
        for file, text in sources().items():
            tree = ast.parse(text)
            imported = {alias.name for node in tree.body if isinstance(node, ast.ImportFrom) for alias in node.names}
            classes = [node for node in tree.body if isinstance(node, ast.ClassDef)]
            used = {node.id for node in ast.walk(tree) if isinstance(node, ast.Name)}
            self.assertLessEqual(imported, used, file)
            for node in ast.walk(tree):
                for name in self.names_of(node):
                    if isinstance(node, (ast.Name, ast.arg)):
                        self.assertNotIn(name, imported | {one.name for one in classes}, (file, name))
            for one in classes:
                for node in ast.walk(one):
                    if isinstance(node, ast.FunctionDef) and not node.name.startswith("__"):
                        methods[node.name] = file
                    if isinstance(node, ast.Attribute) and isinstance(node.ctx, ast.Store):
                        attributes[node.attr] = file
        self.assertEqual(set(methods) & set(attributes), set())
        for name in [*methods, *attributes]:
            self.assertFalse(any(name in names for names in values), name)

    def names_of(self, node):
        """The names that this node binds."""
        if isinstance(node, ast.Name) and isinstance(node.ctx, ast.Store):
            return [node.id]
        if isinstance(node, ast.Attribute) and isinstance(node.ctx, ast.Store):
            return [node.attr]
        if isinstance(node, (ast.FunctionDef, ast.ClassDef)):
            return [node.name]
        return [node.arg] if isinstance(node, ast.arg) else []


if __name__ == "__main__":
    unittest.main()
