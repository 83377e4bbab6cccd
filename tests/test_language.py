"""What a script can see of the rules for the files of the package, and of the interface."""

import ast
import unittest
from pathlib import Path

PACKAGE = Path(__file__).resolve().parent.parent / "marktables"
FILES = sorted(PACKAGE.glob("*.py"))

# For each file of the interface that is written: its functions, and its classes with the methods listed for them.
INTERFACE = {
    "queries": {
        "Query": ["__init__", "__eq__", "__str__", "head", "atoms", "variables", "places", "image", "read"],
        "normal": None, "isomorphism": None,
    },
    "unions": {
        "Union": ["__init__", "__eq__", "__len__", "__or__", "__str__", "queries", "read"],
        "normal_union": None, "same_lists": None,
    },
}
LIBRARY = {
    "heapq": ["heappush", "heappop", "heapify", "heapreplace", "heappushpop"],
    "math": ["gcd", "lcm", "isqrt", "comb", "perm", "factorial"],
    "itertools": [
        "product", "combinations", "permutations", "chain", "accumulate", "pairwise", "islice", "zip_longest"],
    "collections": ["defaultdict", "deque"],
}
NOT_USED = (ast.AsyncFunctionDef, ast.Await, ast.Import, ast.Div, ast.MatMult, ast.TryStar)


def tree_of(path):
    return ast.parse(path.read_text(encoding="utf-8"))


def defined(tree):
    return {node.name: node for node in tree.body if isinstance(node, (ast.FunctionDef, ast.ClassDef))}


class Files(unittest.TestCase):
    def test_the_folder_has_nothing_but_files_of_python(self):
        others = [path.name for path in PACKAGE.iterdir() if path.suffix != ".py" and path.name != "__pycache__"]
        self.assertEqual(others, [])
        self.assertIn("__init__.py", [path.name for path in FILES])

    def test_characters_and_sizes(self):
        for path in FILES:
            text = path.read_text(encoding="utf-8")
            self.assertEqual([sign for sign in text if sign != "\n" and not " " <= sign <= "~"], [], path.name)
            lines = text.split("\n")
            self.assertLess(len(lines), 400, path.name)
            self.assertLessEqual(max(len(line) for line in lines), 120, path.name)
            for node in ast.walk(tree_of(path)):
                if isinstance(node, ast.FunctionDef):
                    self.assertLessEqual(node.end_lineno - node.lineno + 1, 40, f"{path.name} {node.name}")

    def test_imports(self):
        for path in FILES:
            for node in ast.walk(tree_of(path)):
                if isinstance(node, ast.ImportFrom):
                    self.assertEqual(node.level, 0, path.name)
                    self.assertTrue(all(name.asname is None for name in node.names), path.name)
                    self.check_import(path, node.module, [name.name for name in node.names])

    def check_import(self, path, module, names):
        if module in LIBRARY:
            self.assertLessEqual(set(names), set(LIBRARY[module]), path.name)
            return
        top, _, file = module.partition(".")
        self.assertEqual(top, "marktables", path.name)
        tree = tree_of(PACKAGE / f"{file}.py")
        bound = {target.id for node in tree.body if isinstance(node, ast.Assign) for target in node.targets}
        self.assertLessEqual(set(names), {*defined(tree), *bound}, path.name)

    def test_statements_and_expressions(self):
        for path in FILES:
            for node in ast.walk(tree_of(path)):
                self.assertNotIsInstance(node, NOT_USED, path.name)
                if isinstance(node, ast.Constant):
                    self.assertNotIsInstance(node.value, (float, complex), path.name)
                if isinstance(node, ast.Name):
                    self.assertNotIn(node.id, ["open", "input", "print", "id", "hash", "filter", "vars", "eval", "exec"])


class Interface(unittest.TestCase):
    def test_each_name_is_defined_in_its_file(self):
        for file, names in INTERFACE.items():
            found = defined(tree_of(PACKAGE / f"{file}.py"))
            for name, methods in names.items():
                self.assertIn(name, found)
                if methods is None:
                    self.assertIsInstance(found[name], ast.FunctionDef)
                else:
                    self.assertLessEqual(set(methods), {node.name for node in found[name].body
                                                        if isinstance(node, ast.FunctionDef)})


if __name__ == "__main__":
    unittest.main()
