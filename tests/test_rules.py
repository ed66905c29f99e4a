"""The rules L1, L10 and L14 of the language, and a part of some others, over the files of the package."""

import ast
import builtins
import os
import sys
import warnings

from tests.guard import Guarded

TOP = os.path.dirname(os.path.dirname(os.path.abspath(__file__)))
PACKAGE = os.path.join(TOP, "onlyseen")
LIBRARY = {"heapq", "math", "itertools", "collections", "__future__"}
BUILTINS = (
    "len range enumerate zip min max sum abs sorted reversed int str bool bytes list tuple dict set frozenset"
    " isinstance ord repr any all divmod pow getattr hasattr setattr iter next map type Exception ValueError TypeError"
    " KeyError IndexError LookupError ZeroDivisionError ArithmeticError OverflowError RuntimeError NotImplementedError"
    " AttributeError StopIteration NotImplemented property staticmethod classmethod super"
).split()
BARRED_FILES = {"test", "tests", "testing", "site", "conftest", "sitecustomize", "usercustomize", "typing", "enum",
                "type", "register", "mro", "elements", "open", "input", "law", "heapq", "math", "itertools"}


def entries():
    """All files and folders below the package, by their paths in it; what Python itself puts there left out."""
    found = []
    for folder, folders, files in os.walk(PACKAGE):
        folders[:] = [name for name in folders if name != "__pycache__"]
        found += [os.path.relpath(os.path.join(folder, name), PACKAGE) for name in folders + files]
    return sorted(found)


def texts():
    found = {}
    for path in entries():
        if path.endswith(".py"):
            with open(os.path.join(PACKAGE, path), encoding="utf-8", newline="") as file:
                found[path] = file.read()
    return found


def trees():
    return {path: ast.parse(text) for path, text in texts().items()}


class Rules(Guarded):

    def test_l1_only_files_of_python_with_plain_names(self):
        self.assertIn("__init__.py", entries())
        listed = {"errors.py", "sayings.py", "answers.py", "refutations.py", "settling.py", "cores.py", "sights.py",
                  "easy.py", "nets.py", "middles.py", "shorter.py", "live.py", "texts.py", "reading.py", "desk.py"}
        self.assertLessEqual(listed, set(entries()))
        for path in entries():
            self.assertFalse(os.path.islink(os.path.join(PACKAGE, path)), path)
            if os.path.isdir(os.path.join(PACKAGE, path)):
                self.assertIn(os.path.join(path, "__init__.py"), entries())
            else:
                self.assertRegex(path, r"\A(?:[a-z][a-z0-9_]*/)*(?:__init__|__main__|[a-z][a-z0-9_]*)\.py\Z")

    def test_l10_lengths(self):
        for path, text in texts().items():
            lines = text.split("\n")
            self.assertLessEqual(len(lines) - 1, 399, path)
            for number, line in enumerate(lines, 1):
                self.assertLessEqual(len(line), 120, f"{path}:{number}")
                self.assertNotIn("\t", line, f"{path}:{number}")
        for path, tree in trees().items():
            for node in ast.walk(tree):
                if isinstance(node, (ast.FunctionDef, ast.Lambda)):
                    self.assertLessEqual(node.end_lineno - node.lineno + 1, 40, f"{path}:{node.lineno}")

    def test_l14_names_of_files(self):
        self.assertNotIn("onlyseen", sys.stdlib_module_names)
        self.assertLessEqual(len(entries()), 100)
        stems = [path for path in entries() if path.endswith(".py")]
        for path in stems:
            parts = path[:-3].split("/")
            for part in parts:
                self.assertNotIn(part, BARRED_FILES, path)
                self.assertFalse(part.startswith(("test_", "law_")), path)
                self.assertNotIn(part, dir(builtins), path)
            self.assertNotIn(path[:-3], entries(), path)
            self.assertTrue(parts[-1] != "__main__" or len(parts) == 1, path)
        packages = [name for name in os.listdir(TOP) if os.path.exists(os.path.join(TOP, name, "__init__.py"))]
        self.assertEqual(sorted(packages), ["onlyseen", "tests"])

    def test_l14_plain_characters(self):
        for path, text in texts().items():
            for number, line in enumerate(text.split("\n"), 1):
                self.assertRegex(line, r"\A[ -~]*\Z", f"{path}:{number}")
        self.assertLess(sum(len(text) for text in texts().values()), 2_000_000)

    def test_l2_imports_are_of_the_package_or_of_what_is_allowed(self):
        for path, tree in trees().items():
            for node in ast.walk(tree):
                if isinstance(node, ast.Import):
                    self.assertEqual((path, [name.name for name in node.names]), ("__main__.py", ["sys"]))
                if isinstance(node, ast.ImportFrom):
                    self.assertEqual(node.level, 0, path)
                    self.assertTrue(node.module.startswith("onlyseen.") or node.module in LIBRARY, node.module)
                    self.assertNotIn("*", [name.name for name in node.names], path)
                    self.assertIn(node, tree.body, path)

    def test_l16_a_name_is_imported_from_the_file_that_defines_it(self):
        defined = {path[:-3]: {node.name for node in tree.body if isinstance(node, (ast.FunctionDef, ast.ClassDef))}
                   | {target.id for node in tree.body if isinstance(node, ast.Assign) for target in node.targets}
                   for path, tree in trees().items()}
        for path, tree in trees().items():
            for node in tree.body:
                if isinstance(node, ast.ImportFrom) and node.module.startswith("onlyseen."):
                    for name in node.names:
                        self.assertIn(name.name, defined[node.module.split(".", 1)[1].replace(".", "/")], path)

    def test_l16_no_files_import_from_each_other(self):
        needs = {path[:-3]: [node.module.split(".", 1)[1] for node in tree.body
                             if isinstance(node, ast.ImportFrom) and node.module.startswith("onlyseen.")]
                 for path, tree in trees().items()}
        while needs:
            free = [name for name in needs if not any(other in needs for other in needs[name])]
            self.assertTrue(free, f"these import from each other: {sorted(needs)}")
            for name in free:
                del needs[name]

    def test_l8_no_other_builtins_and_no_new_meanings_of_any(self):
        for path, tree in trees().items():
            for node in ast.walk(tree):
                if isinstance(node, ast.Name) and node.id in dir(builtins) and node.id != "_":
                    self.assertIn(node.id, BUILTINS, f"{path}:{node.lineno}")
                    self.assertIsInstance(node.ctx, ast.Load, f"{path}:{node.lineno}")
                if isinstance(node, ast.arg):
                    self.assertNotIn(node.arg, dir(builtins), f"{path}:{node.lineno}")

    def test_l15_no_local_name_is_a_class_or_an_import_of_the_file(self):
        for path, tree in trees().items():
            top = {node.name for node in tree.body if isinstance(node, ast.ClassDef)}
            top |= {name.name for node in tree.body if isinstance(node, ast.ImportFrom) for name in node.names}
            for function in [node for node in ast.walk(tree) if isinstance(node, ast.FunctionDef)]:
                local = {node.arg for node in ast.walk(function) if isinstance(node, ast.arg)}
                local |= {node.id for node in ast.walk(function)
                          if isinstance(node, ast.Name) and isinstance(node.ctx, ast.Store)}
                self.assertFalse(local & top, f"{path}: {function.name}")

    def test_l27_no_warnings_and_no_percent_signs_in_strings(self):
        for path, text in texts().items():
            with warnings.catch_warnings():
                warnings.simplefilter("error")
                compile(text, path, "exec")
            for node in ast.walk(ast.parse(text)):
                if isinstance(node, ast.Constant) and isinstance(node.value, str):
                    self.assertNotIn("%", node.value, f"{path}:{node.lineno}")
                self.assertFalse(isinstance(node, ast.Constant) and isinstance(node.value, float), path)
                self.assertFalse(isinstance(node, ast.Div), path)
