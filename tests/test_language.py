"""What a script can see of the rules for the files of the package, and of the interface."""

import ast
import builtins
import unittest
from importlib import import_module
from inspect import isgeneratorfunction, signature
from pathlib import Path

PACKAGE = Path(__file__).resolve().parent.parent / "marktables"
FILES = sorted(PACKAGE.glob("*.py"))

MEASURE = ["label", "zero", "one", "plus", "times", "at_most", "is_mark", "named", "__eq__"]
# For each file of the interface that is written: its functions, and its classes with the methods listed for them.
INTERFACE = {
    "queries": {
        "Query": ["__init__", "__eq__", "__str__", "head", "atoms", "variables", "places", "image", "read"],
        "normal": None, "isomorphism": None,
    },
    "unions": {
        "Union": ["__init__", "__eq__", "__len__", "__or__", "__str__", "queries", "read"],
        "normal_union": None, "same_lists": None,
    },
    "maps": {"maps": None, "map_error": None, "counts": None, "kind": None, "first_map": None, "composed": None},
    "polynomials": {
        "Polynomial": ["__init__", "__add__", "__sub__", "__mul__", "__call__", "__eq__", "__str__", "terms"],
    },
    "tables": {
        "Tables": ["__init__", "__contains__", "__eq__", "__len__", "rows", "names"],
        "ways": None, "answers": None, "polynomial_answers": None,
    },
    "reading": {"after": None, "reasons": None, "least_deletions": None, "difference": None},
    "measures": {name: MEASURE for name in [
        "Measure", "Holds", "Which", "Why", "Bags", "Cheapest", "Dearest", "Counted", "Polynomials", "Numbers"]},
    "groupings": {"groupings": None},
    "within": {"within": None, "witness_rows": None, "check_within": None, "equal": None},
    "apart": {"apart": None, "check_apart": None},
    "order": {"implies": None, "parting": None, "telling": None},
    "papers": {"carried": None, "converted": None, "joined_papers": None},
    "least": {"core": None, "check_core": None, "least": None},
    "desk": {"Desk": [
        "__init__", "tables", "titles", "log", "put", "take", "watch", "drop", "answer", "news", "back", "again", "attempt"]},
}
# The arguments as the interface names them.
ARGUMENTS = {
    "queries": {"Query": "head atoms", "normal": "query", "isomorphism": "one other"},
    "unions": {"normal_union": "union", "same_lists": "one other"},
    "maps": {
        "maps": "source goal", "map_error": "source goal value", "counts": "source goal value",
        "kind": "source goal value", "first_map": "source goal wanted", "composed": "source middle goal first second",
    },
    "polynomials": {"Polynomial": "terms"},
    "tables": {
        "Tables": "rows", "ways": "tables query", "answers": "tables union measure marks",
        "polynomial_answers": "tables union",
    },
    "reading": {
        "after": "polynomial names", "reasons": "polynomial", "least_deletions": "polynomial",
        "difference": "tables union names rows",
    },
    "groupings": {"groupings": "query"},
    "within": {
        "within": "one other measure", "witness_rows": "one measure answer", "check_within": "one other measure answer",
        "equal": "one other measure",
    },
    "apart": {"apart": "one other", "check_apart": "one other value"},
    "order": {"implies": "first second", "parting": "first second table places", "telling": "one other"},
    "papers": {
        "carried": "one measure paper number way", "converted": "first second paper",
        "joined_papers": "one middle other measure first second",
    },
    "least": {"core": "query", "check_core": "query value", "least": "union measure"},
    "desk": {"Desk": "rows"},
}
# The arguments of methods.
METHOD_ARGUMENTS = {
    "queries": {"Query": {"image": "names"}},
    "polynomials": {"Polynomial": {"__call__": "measure marks"}},
    "measures": {name: {
        "zero": "", "one": "", "plus": "a b", "times": "a b", "at_most": "a b", "is_mark": "value", "named": "name",
    } for name in INTERFACE["measures"]},
    "desk": {"Desk": {
        "put": "row", "take": "name", "watch": "title union", "drop": "title", "answer": "title", "news": "title",
        "back": "", "again": "", "attempt": "deeds",
    }},
}
GENERATORS = ["maps", "ways", "groupings"]
LIBRARY = {
    "heapq": ["heappush", "heappop", "heapify", "heapreplace", "heappushpop"],
    "math": ["gcd", "lcm", "isqrt", "comb", "perm", "factorial"],
    "itertools": [
        "product", "combinations", "permutations", "chain", "accumulate", "pairwise", "islice", "zip_longest"],
    "collections": ["defaultdict", "deque"],
}
NOT_USED = (
    ast.AsyncFunctionDef, ast.Await, ast.Import, ast.Div, ast.MatMult, ast.TryStar, ast.Global, ast.GeneratorExp)
NO_NAMES = ["open", "input", "print", "id", "hash", "filter", "vars", "eval", "exec"]
# Methods of builtin values.
METHODS = """append clear copy count endswith extend find get index insert isalnum isalpha isdigit islower isspace
    isupper items join keys ljust lower lstrip partition pop remove replace reverse rfind rjust rpartition rsplit rstrip
    setdefault split splitlines startswith strip update upper values zfill bit_length isascii add discard""".split()


def tree_of(path):
    return ast.parse(path.read_text(encoding="utf-8"))


def defined(tree):
    return {node.name: node for node in tree.body if isinstance(node, (ast.FunctionDef, ast.ClassDef))}


class Files(unittest.TestCase):
    def test_the_folder_has_nothing_but_files_of_python(self):
        others = [path.name for path in PACKAGE.iterdir() if path.suffix != ".py" and path.name != "__pycache__"]
        self.assertEqual(others, [])
        self.assertIn("__init__.py", [path.name for path in FILES])

    def test_characters_and_sizes(self):
        for path in FILES:
            text = path.read_text(encoding="utf-8")
            self.assertEqual([sign for sign in text if sign != "\n" and not " " <= sign <= "~"], [], path.name)
            lines = text.split("\n")
            self.assertLess(len(lines), 400, path.name)
            self.assertLessEqual(max(len(line) for line in lines), 120, path.name)
            for node in ast.walk(tree_of(path)):
                if isinstance(node, ast.FunctionDef):
                    self.assertLessEqual(node.end_lineno - node.lineno + 1, 40, f"{path.name} {node.name}")

    def test_imports(self):
        for path in FILES:
            for node in ast.walk(tree_of(path)):
                if isinstance(node, ast.ImportFrom):
                    self.assertEqual(node.level, 0, path.name)
                    self.assertTrue(all(name.asname is None for name in node.names), path.name)
                    self.check_import(path, node.module, [name.name for name in node.names])

    def check_import(self, path, module, names):
        if module in LIBRARY:
            self.assertLessEqual(set(names), set(LIBRARY[module]), path.name)
            return
        top, _, file = module.partition(".")
        self.assertEqual(top, "marktables", path.name)
        tree = tree_of(PACKAGE / f"{file}.py")
        bound = {target.id for node in tree.body if isinstance(node, ast.Assign) for target in node.targets}
        self.assertLessEqual(set(names), {*defined(tree), *bound}, path.name)

    def test_statements_and_expressions(self):
        for path in FILES:
            for node in ast.walk(tree_of(path)):
                self.assertNotIsInstance(node, NOT_USED, path.name)
                if isinstance(node, ast.Constant):
                    self.assertNotIsInstance(node.value, (float, complex), path.name)
                if isinstance(node, ast.Name):
                    self.assertNotIn(node.id, NO_NAMES, path.name)

    def test_generators_are_iterated_at_once(self):
        functions = [node for path in FILES for node in ast.walk(tree_of(path)) if isinstance(node, ast.FunctionDef)]
        yielding = [node.name for node in functions
                    if any(isinstance(part, (ast.Yield, ast.YieldFrom)) for part in ast.walk(node))]
        names = [node.name for node in functions]
        self.assertLessEqual(set(GENERATORS), set(yielding))
        for name in yielding:
            self.assertEqual(names.count(name), 1)
        for path in FILES:
            tree = tree_of(path)
            right = set()
            for node in ast.walk(tree):
                if isinstance(node, (ast.For, ast.comprehension)):
                    right.add(id(node.iter))
                if isinstance(node, ast.YieldFrom):
                    right.add(id(node.value))
                if isinstance(node, ast.Call) and isinstance(node.func, ast.Name) and node.func.id in ("list", "tuple"):
                    right.update(id(part) for part in node.args)
            for node in ast.walk(tree):
                if isinstance(node, ast.Call) and isinstance(node.func, ast.Name) and node.func.id in yielding:
                    self.assertIn(id(node), right, f"{path.name} {node.lineno}")
                    parts = [part for part in node.args if not isinstance(part, (ast.Name, ast.Attribute, ast.Tuple))]
                    self.assertEqual(parts, [], f"{path.name} {node.lineno}")

    def test_bound_names_are_no_builtins(self):
        for path in FILES:
            bound = []
            for node in ast.walk(tree_of(path)):
                if isinstance(node, ast.arg):
                    bound.append(node.arg)
                if isinstance(node, ast.Name) and isinstance(node.ctx, ast.Store):
                    bound.append(node.id)
            bound.extend(defined(tree_of(path)))
            self.assertEqual([name for name in bound if name != "_" and (hasattr(builtins, name) or name == "sys")], [], path.name)

    def test_parameters_and_variables_are_not_named_like_imports_and_classes(self):
        for path in FILES:
            tree = tree_of(path)
            taken = {alias.name for node in tree.body if isinstance(node, ast.ImportFrom) for alias in node.names}
            taken.update(name for name, node in defined(tree).items() if isinstance(node, ast.ClassDef))
            for node in ast.walk(tree):
                if isinstance(node, ast.arg):
                    self.assertNotIn(node.arg, taken, path.name)
                if isinstance(node, ast.Name) and isinstance(node.ctx, ast.Store):
                    self.assertNotIn(node.id, taken, path.name)

    def test_methods(self):
        own = {node.name for path in FILES for kind in ast.walk(tree_of(path)) if isinstance(kind, ast.ClassDef)
               for node in kind.body if isinstance(node, ast.FunctionDef)}
        for path in FILES:
            for node in ast.walk(tree_of(path)):
                if isinstance(node, ast.Call) and isinstance(node.func, ast.Attribute):
                    self.assertIn(node.func.attr, {*METHODS, *own}, path.name)

    def test_sets_stand_in_their_places(self):
        for path in FILES:
            tree = tree_of(path)
            right = set()
            for node in ast.walk(tree):
                if isinstance(node, ast.Call) and isinstance(node.func, ast.Name) and node.func.id in ("sorted", "len"):
                    right.update(id(part) for part in node.args)
                if isinstance(node, ast.Assign) and isinstance(node.targets[0], ast.Name):
                    right.add(id(node.value))
                if isinstance(node, ast.Compare):
                    right.update(id(part) for part in [node.left, *node.comparators])
            for node in ast.walk(tree):
                called = isinstance(node, ast.Call) and isinstance(node.func, ast.Name) and node.func.id == "set"
                if called or isinstance(node, (ast.Set, ast.SetComp)):
                    self.assertIn(id(node), right, f"{path.name} {node.lineno}")


class Interface(unittest.TestCase):
    def test_each_name_is_defined_in_its_file(self):
        for file, names in INTERFACE.items():
            found = defined(tree_of(PACKAGE / f"{file}.py"))
            for name, methods in names.items():
                self.assertIn(name, found)
                if methods is None:
                    self.assertIsInstance(found[name], ast.FunctionDef)
                else:
                    self.assertLessEqual(set(methods), {node.name for node in found[name].body
                                                        if isinstance(node, ast.FunctionDef)})

    def test_arguments(self):
        for file, names in ARGUMENTS.items():
            module = import_module(f"marktables.{file}")
            for name, arguments in names.items():
                self.assertEqual(list(signature(getattr(module, name)).parameters), arguments.split(), name)
                self.assertEqual(getattr(module, name).__module__, f"marktables.{file}")

    def test_arguments_of_methods(self):
        for file, classes in METHOD_ARGUMENTS.items():
            for name, methods in classes.items():
                kind = getattr(import_module(f"marktables.{file}"), name)
                for method, arguments in methods.items():
                    found = list(signature(getattr(kind, method)).parameters)
                    self.assertEqual(found, ["self", *arguments.split()], (name, method))

    def test_generators(self):
        for file in INTERFACE:
            module = import_module(f"marktables.{file}")
            found = [name for name in INTERFACE[file] if isgeneratorfunction(getattr(module, name))]
            self.assertEqual(found, [name for name in GENERATORS if name in INTERFACE[file]])


if __name__ == "__main__":
    unittest.main()
