"""What can be seen of LANGUAGE.md's rules in the files of the package, so that a slip is found here first."""

import ast
import builtins
import unittest
from pathlib import Path

PACKAGE = Path(__file__).resolve().parent.parent / "latesums"
FILES = sorted(PACKAGE.rglob("*.py"))
LIBRARY = {"heapq": {"heappush", "heappop", "heapify", "heapreplace", "heappushpop"},
           "math": {"gcd", "lcm", "isqrt", "comb", "perm", "factorial"},
           "itertools": {"product", "combinations", "permutations", "chain", "accumulate", "pairwise", "islice",
                         "zip_longest"},
           "collections": {"defaultdict"}}
BUILTINS = set("""len range enumerate zip min max sum abs sorted reversed int str bool bytes list tuple dict set
    frozenset isinstance ord chr repr any all divmod pow getattr hasattr setattr map iter next super print Exception
    ValueError TypeError KeyError IndexError LookupError ZeroDivisionError ArithmeticError OverflowError RuntimeError
    NotImplementedError AttributeError StopIteration NotImplemented""".split())
BARRED = set("""register mro elements open input law version_info with_traceback add_note attrgetter breakpoint builtins
    compile copyright credits delattr dir eval exec exit gc globals help id importlib license locals methodcaller os
    quit type vars sys typing enum Enum namedtuple dataclass""".split())
NOT_ALLOWED = (ast.Global, ast.AsyncFunctionDef, ast.AsyncFor, ast.AsyncWith, ast.Await, ast.Div, ast.MatMult,
               ast.GeneratorExp, ast.Yield, ast.YieldFrom)
AT_MODULE_LEVEL = (ast.Expr, ast.ImportFrom, ast.FunctionDef, ast.ClassDef, ast.Assign)


def bound_names(tree):
    """All names that a file gives to something of its own, but for methods and attributes."""
    names = []
    for node in ast.walk(tree):
        if isinstance(node, ast.Name) and isinstance(node.ctx, ast.Store):
            names.append(node.id)
        elif isinstance(node, ast.arg):
            names.append(node.arg)
        elif isinstance(node, ast.alias):
            names.append(node.name)
        elif isinstance(node, ast.Module):
            names += [part.name for part in node.body if isinstance(part, (ast.FunctionDef, ast.ClassDef))]
    return names


class Language(unittest.TestCase):
    def each(self):
        for path in FILES:
            text = path.read_text(encoding="utf-8")
            yield text, ast.parse(text)

    def test_the_folder_holds_python_files_alone(self):
        found = [path for path in PACKAGE.rglob("*") if path.is_file() and "__pycache__" not in path.parts]
        self.assertEqual(sorted(found), FILES)
        self.assertIn(PACKAGE / "__init__.py", FILES)

    def test_sizes_and_characters(self):
        for text, tree in self.each():
            lines = text.split("\n")
            self.assertLessEqual(len(lines), 399)
            self.assertLessEqual(max(len(line) for line in lines), 120)
            self.assertTrue(all(sign == "\n" or " " <= sign <= "~" for sign in text))
            for node in ast.walk(tree):
                if isinstance(node, ast.FunctionDef):
                    self.assertLessEqual(node.end_lineno - node.lineno + 1, 40, node.name)

    def test_statements(self):
        for text, tree in self.each():
            for node in tree.body:
                self.assertIsInstance(node, AT_MODULE_LEVEL)
            for node in ast.walk(tree):
                self.assertNotIsInstance(node, NOT_ALLOWED)
                self.assertEqual(getattr(node, "decorator_list", []), [])
                if isinstance(node, ast.Constant):
                    self.assertNotIsInstance(node.value, (float, complex))

    def test_imports(self):
        for text, tree in self.each():
            self.assertFalse([node for node in ast.walk(tree) if isinstance(node, ast.Import)])
            for node in ast.walk(tree):
                if isinstance(node, ast.ImportFrom):
                    self.assertEqual(node.level, 0)
                    self.check_import(node)

    def check_import(self, node):
        self.assertFalse([alias for alias in node.names if alias.asname or alias.name == "*"])
        if node.module in LIBRARY:
            self.assertLessEqual({alias.name for alias in node.names}, LIBRARY[node.module])
            return
        self.assertTrue(node.module.startswith("latesums."))
        source = ast.parse((PACKAGE / (node.module.split(".")[1] + ".py")).read_text())
        defined = [part.name for part in source.body if isinstance(part, (ast.FunctionDef, ast.ClassDef))]
        constants = [part.targets[0].id for part in source.body if isinstance(part, ast.Assign)]
        self.assertLessEqual({alias.name for alias in node.names}, set(defined + constants))

    def test_names(self):
        for text, tree in self.each():
            bound = bound_names(tree)
            self.assertFalse(set(bound) & set(dir(builtins)))
            self.assertFalse(set(bound) & BARRED)
            self.assertFalse([name for name in bound if name.startswith("__")])
            for node in ast.walk(tree):
                if isinstance(node, ast.Name) and node.id not in bound and hasattr(builtins, node.id):
                    self.assertIn(node.id, BUILTINS)

    def test_each_name_is_bound_once(self):
        for text, tree in self.each():
            names = []
            for node in tree.body:
                if isinstance(node, ast.ImportFrom):
                    names += [alias.name for alias in node.names]
                elif isinstance(node, ast.Assign):
                    names += [target.id for target in node.targets]
                elif isinstance(node, (ast.FunctionDef, ast.ClassDef)):
                    names.append(node.name)
            self.assertEqual(len(names), len(set(names)))
            imported = [alias.name for node in tree.body if isinstance(node, ast.ImportFrom) for alias in node.names]
            classes = [node.name for node in tree.body if isinstance(node, ast.ClassDef)]
            stored = [node.arg for node in ast.walk(tree) if isinstance(node, ast.arg)]
            stored += [node.id for node in ast.walk(tree)
                       if isinstance(node, ast.Name) and isinstance(node.ctx, ast.Store)]
            self.assertFalse(set(imported + classes) & set(stored))

    def test_no_files_import_from_each_other(self):
        sources = {}
        for path in FILES:
            tree = ast.parse(path.read_text(encoding="utf-8"))
            sources[path.stem] = {node.module.split(".")[1] for node in ast.walk(tree)
                                  if isinstance(node, ast.ImportFrom) and node.module.startswith("latesums.")}
        while sources:
            free = [name for name, behind in sources.items() if not behind & set(sources)]
            self.assertTrue(free, "these files import from each other: " + " ".join(sorted(sources)))
            for name in free:
                del sources[name]

    def test_no_name_is_a_method_and_an_attribute(self):
        methods, stored, read = set(), set(), set()
        for text, tree in self.each():
            for node in ast.walk(tree):
                if isinstance(node, ast.ClassDef):
                    methods |= {part.name for part in node.body if isinstance(part, ast.FunctionDef)}
                elif isinstance(node, ast.Attribute):
                    (stored if isinstance(node.ctx, ast.Store) else read).add(node.attr)
        self.assertFalse(methods & stored)
        builtin = {name for kind in (str, list, dict, set, int, tuple) for name in dir(kind)}
        self.assertFalse(stored & builtin)
        self.assertFalse(read - stored - methods - builtin)

    def test_strings(self):
        for text, tree in self.each():
            for node in ast.walk(tree):
                if isinstance(node, ast.Constant) and isinstance(node.value, str):
                    self.assertNotIn("%", node.value)


if __name__ == "__main__":
    unittest.main()
