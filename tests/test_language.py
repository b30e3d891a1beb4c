"""Rules of the language that a walk over the package's files can see; the numbers are the rules'."""

import ast
import builtins
import re
import unittest
from pathlib import Path

FOLDER = Path(__file__).resolve().parent.parent / "sameforms"
FILES = sorted(FOLDER.glob("*.py"))
BUILTINS = set(
    "len range enumerate zip min max sum abs sorted reversed int str bool list tuple dict set isinstance any all divmod "
    "ord repr map iter next Exception ValueError TypeError KeyError IndexError LookupError super".split())
METHODS = set(
    "append clear copy count endswith extend find get index insert isalnum isalpha isdigit islower isspace isupper items "
    "join keys ljust lower lstrip partition pop remove replace reverse rfind rjust rpartition rsplit rstrip setdefault "
    "split splitlines startswith strip update upper values zfill bit_length add discard __init__".split())
LIBRARY = {"heapq": {"heappush", "heappop", "heapify"}, "math": {"gcd", "lcm", "comb", "factorial"},
           "itertools": {"product", "combinations", "permutations"}}
WORDS = re.compile(r"\b(type|typing|enum|Enum|Flag|Generic|Protocol|ABC|namedtuple)\b|dataclass|overload")
UNUSED = set("register mro elements open input law eval exec exit compile vars dir globals locals help id".split())
# Own methods that are called.
OWN_METHODS = {node.name for path in FILES for kind in ast.walk(ast.parse(path.read_text())) if isinstance(kind, ast.ClassDef)
               for node in kind.body if isinstance(node, ast.FunctionDef)}
ONE_BY_ONE = {"any", "all", "min", "max", "sum", "sorted"}
AT_ONCE = {"range", "zip", "enumerate", "reversed"}


def bound_names(tree):
    """All names that a function takes as parameters or assigns."""
    names = [node.id for node in ast.walk(tree) if isinstance(node, ast.Name) and isinstance(node.ctx, ast.Store)]
    return names + [node.arg for node in ast.walk(tree) if isinstance(node, ast.arg)]


class Language(unittest.TestCase):

    def each(self, *kinds):
        for path in FILES:
            for node in ast.walk(ast.parse(path.read_text())):
                if isinstance(node, kinds):
                    yield f"{path.name}:{getattr(node, 'lineno', 0)}", node

    def test_l1_l10_l14_files(self):
        self.assertIn(FOLDER / "__init__.py", FILES)
        for path in FOLDER.iterdir():
            self.assertTrue(path in FILES or path.name == "__pycache__", path)
        for path in FILES:
            text = path.read_text()
            self.assertRegex(path.name, r"^[a-z_]+\.py$")
            self.assertRegex(text, r"^[ -~\n]*\Z", path)
            self.assertLessEqual(text.count("\n"), 399, path)
            for number, row in enumerate(text.split("\n"), 1):
                self.assertLessEqual(len(row), 120, f"{path.name}:{number}")

    def test_l10_functions(self):
        for place, node in self.each(ast.FunctionDef):
            self.assertLessEqual(node.end_lineno - node.lineno + 1, 40, place)

    def test_l2_l16_imports(self):
        links = {}
        for path in FILES:
            links[path.stem] = []
            for node in ast.parse(path.read_text()).body:
                if not isinstance(node, ast.ImportFrom):
                    continue
                self.assertEqual(node.level, 0)
                package, _, module = node.module.partition(".")
                names = {alias.name for alias in node.names}
                self.assertEqual([alias.asname for alias in node.names], [None] * len(names))
                if package != "sameforms":
                    self.assertLessEqual(names, LIBRARY[node.module], path)
                    continue
                links[path.stem].append(module)
                defined = set()
                for other in ast.parse((FOLDER / (module + ".py")).read_text()).body:
                    defined |= {getattr(other, "name", "")} | {target.id for target in getattr(other, "targets", [])}
                self.assertLessEqual(names, defined, path)
        self.assertEqual(links["__init__"], [])
        while links:
            free = [file for file in links if not set(links[file]) & set(links)]
            self.assertTrue(free, f"files import in a ring: {links}")
            links = {file: links[file] for file in links if file not in free}

    def test_l3_module_level(self):
        for path in FILES:
            body = ast.parse(path.read_text()).body
            self.assertIsInstance(body[0].value.value, str, path)
            for node in body[1:]:
                self.assertIsInstance(node, (ast.ImportFrom, ast.FunctionDef, ast.ClassDef, ast.Assign), path)
                if isinstance(node, ast.Assign):
                    self.is_plain(node.value, {kept.name for kept in body[:body.index(node)] if isinstance(kept, ast.FunctionDef)})

    def is_plain(self, node, functions):
        """The value is plain, or a dict of functions that are defined above it."""
        if isinstance(node, ast.Dict) and all(isinstance(part, ast.Name) for part in node.values):
            self.assertLessEqual({part.id for part in node.values}, functions)
            node = ast.Tuple(node.keys, ast.Load())
        ast.literal_eval(node)

    def test_l4_l6_l7_statements(self):
        barred = (ast.Import, ast.Global, ast.AsyncFunctionDef, ast.With, ast.Div, ast.Set, ast.ExceptHandler)
        for place, node in self.each(*barred):
            self.fail(f"{place} {node}")
        for place, node in self.each(ast.Try):
            # Without handlers; what is put back are names that were assigned ahead of it.
            for row in node.finalbody:
                self.assertIsInstance(row, ast.Assign, place)
                self.assertIsInstance(row.value, ast.Name, place)
                self.assertEqual([target.__class__ for target in row.targets], [ast.Attribute], place)
        for place, node in self.each(ast.FunctionDef, ast.ClassDef):
            self.assertEqual(node.decorator_list, [], place)
        for place, node in self.each(ast.Constant):
            self.assertNotIsInstance(node.value, (float, complex, bytes), place)

    def test_l8_builtins(self):
        for place, node in self.each(ast.Name):
            if hasattr(builtins, node.id):
                self.assertIn(node.id, BUILTINS, place)
                self.assertIsInstance(node.ctx, ast.Load, place)
        for place, node in self.each(ast.arg, ast.FunctionDef, ast.ClassDef):
            name = getattr(node, "arg", None) or node.name
            if not name.startswith("__"):
                self.assertFalse(hasattr(builtins, name), f"{place} {name}")

    def test_l15_names_once(self):
        for path in FILES:
            tree = ast.parse(path.read_text())
            top = []
            for node in tree.body:
                if isinstance(node, ast.ImportFrom):
                    top += [alias.name for alias in node.names]
                elif isinstance(node, (ast.FunctionDef, ast.ClassDef)):
                    top.append(node.name)
                elif isinstance(node, ast.Assign):
                    top += [target.id for target in node.targets]
            self.assertEqual(len(top), len(set(top)), path)
            for node in ast.walk(tree):
                if isinstance(node, ast.FunctionDef):
                    self.assertEqual(set(bound_names(node)) & set(top), set(), f"{path.name}:{node.lineno}")

    def test_l17_l27_words(self):
        for path in FILES:
            tree = ast.parse(path.read_text())
            docs = [ast.get_docstring(node, clean=False) for node in ast.walk(tree)
                    if isinstance(node, (ast.Module, ast.FunctionDef, ast.ClassDef))]
            for node in ast.walk(tree):
                if isinstance(node, ast.Constant) and isinstance(node.value, str) and node.value not in docs:
                    self.assertNotIn("%", node.value, path)
                    self.assertIsNone(WORDS.search(node.value), f"{path.name} {node.value}")
                for field in ("id", "name", "arg", "attr"):
                    name = getattr(node, field, None)
                    if isinstance(name, str):
                        self.assertNotIn(name, UNUSED, path)
                        self.assertIsNone(WORDS.search(name), f"{path.name} {name}")

    def test_l7_l23_l24_calls(self):
        for place, node in self.each(ast.Call):
            name = getattr(node.func, "id", "")
            if name in ONE_BY_ONE:
                self.assertFalse([part for part in node.args if isinstance(part, ast.GeneratorExp)], place)
        for place, node in self.each(ast.Assign, ast.Return):
            name = getattr(getattr(node.value, "func", None), "id", "")
            self.assertNotIn(name, AT_ONCE | {"set"}, place)
            self.assertNotIsInstance(node.value, (ast.SetComp, ast.GeneratorExp), place)
        for place, node in self.each(ast.For, ast.comprehension):
            self.assertNotEqual(getattr(getattr(node.iter, "func", None), "id", ""), "set", place)
            self.assertNotIsInstance(node.iter, ast.SetComp, place)

    def test_l25_methods(self):
        for place, node in self.each(ast.Call):
            if isinstance(node.func, ast.Attribute):
                self.assertIn(node.func.attr, METHODS | OWN_METHODS, place)

    def test_l20_is(self):
        for place, node in self.each(ast.Compare):
            for sign, right in zip(node.ops, node.comparators):
                if isinstance(sign, (ast.Is, ast.IsNot)):
                    self.assertIn(getattr(right, "value", ""), (None, True, False), place)


if __name__ == "__main__":
    unittest.main()
