"""Those rules of the language that are easily seen in the files of the package."""

import ast
import builtins
import pathlib
import unittest

PACKAGE = pathlib.Path(__file__).resolve().parent.parent / "surelyset"
FILES = sorted(PACKAGE.rglob("*.py"))
BUILTINS = set("""len range enumerate zip min max sum abs sorted reversed int str bool bytes list tuple dict set isinstance
    ord repr any all divmod map iter next Exception ValueError TypeError KeyError IndexError LookupError
    ZeroDivisionError ArithmeticError OverflowError RuntimeError NotImplementedError NotImplemented property
    staticmethod classmethod super""".split())
METHODS = set("""append clear copy count endswith extend find get index insert isalnum isalpha isdigit islower isspace
    isupper items join keys ljust lower lstrip partition pop remove replace reverse rfind rjust rpartition rsplit rstrip
    setdefault split splitlines startswith strip update upper values zfill bit_length isascii isdecimal removeprefix
    removesuffix add discard""".split())
DUNDERS = set("""init eq repr str len enter exit call iter lt le gt ge ne and or contains getitem setitem bool""".split())
# The methods that change nothing and call nothing that they are passed or hold; properties that are read, too.
PURE = set("eq repr str len lt le gt ge ne and or contains getitem bool".split())
CHANGING = ("append", "clear", "extend", "insert", "pop", "remove", "reverse", "setdefault", "update")
BARRED = (ast.Global, ast.AsyncFunctionDef, ast.Await, ast.Div, ast.AnnAssign)


class LanguageTest(unittest.TestCase):
    def trees(self):
        return [(path, ast.parse(path.read_text(encoding="utf-8"))) for path in FILES]

    def own_names(self):
        names = set()
        for _, tree in self.trees():
            for node in ast.walk(tree):
                if isinstance(node, (ast.FunctionDef, ast.ClassDef)):
                    names.add(node.name)
        return names

    def test_files(self):
        self.assertTrue((PACKAGE / "__init__.py") in FILES)
        for path in FILES:
            text = path.read_text(encoding="utf-8")
            self.assertTrue(text.isascii() and "\t" not in text, path)
            lines = text.split("\n")
            self.assertLess(len(lines), 400, path)
            for at, line in enumerate(lines):
                self.assertLessEqual(len(line), 120, f"{path}:{at + 1}")

    def test_functions(self):
        for path, tree in self.trees():
            for node in ast.walk(tree):
                if isinstance(node, ast.FunctionDef):
                    self.assertLessEqual(node.end_lineno - node.lineno, 39, f"{path}:{node.lineno}")
                    if node.name.startswith("__"):
                        self.assertIn(node.name.strip("_"), DUNDERS, f"{path}:{node.lineno}")

    def test_imports(self):
        for path, tree in self.trees():
            for node in ast.walk(tree):
                self.assertNotIsInstance(node, ast.Import, path)
                if isinstance(node, ast.ImportFrom):
                    self.assertIn(node, tree.body)
                    self.assertTrue(node.module.startswith("surelyset."), f"{path}:{node.lineno}")
                    self.assertEqual([], [name.asname for name in node.names if name.asname])

    def test_names(self):
        for path, tree in self.trees():
            for node in ast.walk(tree):
                where = f"{path}:{getattr(node, 'lineno', 0)}"
                self.assertNotIsInstance(node, BARRED, where)
                if isinstance(node, ast.Name) and hasattr(builtins, node.id):
                    self.assertIn(node.id, BUILTINS, where)
                    self.assertIsInstance(node.ctx, ast.Load, where)
                if isinstance(node, ast.BinOp) and isinstance(node.op, ast.Pow):
                    self.assertIsInstance(node.right, ast.Constant, where)
                    self.assertIn(node.right.value, range(65), where)
                if isinstance(node, ast.arg):
                    self.assertFalse(hasattr(builtins, node.arg), where)
                if isinstance(node, ast.Constant) and isinstance(node.value, str):
                    self.assertNotIn("\x25", node.value, where)

    def test_methods(self):
        own = self.own_names()
        for path, tree in self.trees():
            for node in ast.walk(tree):
                if isinstance(node, ast.Call) and isinstance(node.func, ast.Attribute):
                    self.assertIn(node.func.attr, own | METHODS | {"__init__"}, f"{path}:{node.lineno}")

    def test_loops(self):
        """What a loop iterates over is not changed in it."""
        for path, tree in self.trees():
            for node in ast.walk(tree):
                if isinstance(node, ast.For):
                    heads = [node.iter]
                    if isinstance(node.iter, ast.Call) and isinstance(node.iter.func, ast.Attribute):
                        heads.append(node.iter.func.value)
                    elif isinstance(node.iter, ast.Call) and node.iter.func.id in ("enumerate", "zip", "reversed"):
                        heads.extend(node.iter.args)
                    words = {ast.unparse(head) for head in heads}
                    for inner in [inner for row in node.body for inner in ast.walk(row)]:
                        where = f"{path}:{getattr(inner, 'lineno', 0)}"
                        if isinstance(inner, ast.Subscript) and not isinstance(inner.ctx, ast.Load):
                            self.assertNotIn(ast.unparse(inner.value), words, where)
                        if isinstance(inner, ast.Call) and isinstance(inner.func, ast.Attribute):
                            if inner.func.attr in CHANGING:
                                self.assertNotIn(ast.unparse(inner.func.value), words, where)

    def test_orders(self):
        """As a class has an order, what is sorted or compared is plainly numbers, or a set."""
        for path, tree in self.trees():
            for node in ast.walk(tree):
                if isinstance(node, ast.Call) and isinstance(node.func, ast.Name):
                    where = f"{path}:{node.lineno}"
                    if node.func.id == "sorted":
                        self.assertEqual("set(", ast.unparse(node.args[0])[:4], where)
                    if node.func.id in ("min", "max"):
                        self.assertTrue(any(self.is_number(value) for value in node.args), where)

    def is_number(self, node):
        """Whether this is plainly a number, or a list of such."""
        if isinstance(node, ast.ListComp):
            node = node.elt
        if isinstance(node, ast.Call) and isinstance(node.func, ast.Name):
            return node.func.id in ("int", "len")
        return isinstance(node, ast.Constant) or (isinstance(node, ast.Name) and node.id.isupper())

    def test_one_meaning(self):
        """No name is a property, or a static or class method, and something else too."""
        kinds = {"property": set(), "static": set(), "method": set(), "attribute": set()}
        for _, tree in self.trees():
            for node in ast.walk(tree):
                if isinstance(node, ast.ClassDef):
                    for inner in node.body:
                        if isinstance(inner, ast.FunctionDef):
                            signs = "".join(map(ast.unparse, inner.decorator_list))
                            is_property = signs == "property" or signs.endswith(".setter")
                            kinds["property" if is_property else "static" if signs else "method"].add(inner.name)
                if isinstance(node, ast.Attribute) and isinstance(node.ctx, ast.Store):
                    kinds["attribute"].add(node.attr)
        for one in kinds:
            for other in kinds:
                if one != other:
                    self.assertEqual(set(), kinds[one] & kinds[other], (one, other))

    def definitions(self):
        """All functions and methods: a list of (class or None, node)."""
        found = []
        for _, tree in self.trees():
            for node in tree.body:
                inside = node.body if isinstance(node, ast.ClassDef) else [node]
                name = node.name if isinstance(node, ast.ClassDef) else None
                found += [(name, inner) for inner in inside if isinstance(inner, ast.FunctionDef)]
        return found

    def has_sign(self, node, end):
        return any(ast.unparse(sign).endswith(end) for sign in node.decorator_list)

    def run_by(self, node, definitions):
        """The functions and methods that may be run by this one itself."""
        words, attributes = set(), set()
        for inner in ast.walk(node):
            if isinstance(inner, ast.Call) and isinstance(inner.func, ast.Name):
                words.add(inner.func.id)
            if isinstance(inner, ast.Attribute):
                attributes.add(inner.attr)
        for name, other in definitions:
            if name is None or other.name == "__init__":
                is_run = (name or other.name) in words
            else:
                # What is read is never a property's setter.
                is_run = other.name in attributes and not self.has_sign(other, ".setter")
            if is_run:
                yield name, other

    def test_operators(self):
        """What operators and properties run calls no name that an object stores, and changes no object but new ones."""
        stored = {node.attr for _, tree in self.trees() for node in ast.walk(tree)
                  if isinstance(node, ast.Attribute) and isinstance(node.ctx, ast.Store)}
        definitions = self.definitions()
        reached = [(name, node) for name, node in definitions
                   if name and (node.name.strip("_") in PURE and node.name.startswith("__") or self.has_sign(node, "property"))]
        self.assertIn(("Profile", "__or__"), [(name, node.name) for name, node in reached])
        for _, node in reached:
            reached += [each for each in self.run_by(node, definitions) if each not in reached]
        self.assertIn("greater", [node.name for _, node in reached])
        for name, node in reached:
            for inner in ast.walk(node):
                where = f"{name} {node.name}, row {getattr(inner, 'lineno', 0)}"
                if isinstance(inner, ast.Call) and isinstance(inner.func, ast.Attribute):
                    self.assertFalse(inner.func.attr in stored, f"{inner.func.attr} in {where}")
                if isinstance(inner, ast.Attribute) and node.name != "__init__":
                    self.assertIsInstance(inner.ctx, ast.Load, where)

    def test_ends_of_blocks(self):
        """As a class has arithmetic signs, what an __exit__ runs and a finally have no + and no -."""
        definitions = self.definitions()
        reached = [each for each in definitions if each[1].name == "__exit__"]
        self.assertEqual(["Trial", "Attempt"], [name for name, _ in reached])
        for _, node in reached:
            reached += [each for each in self.run_by(node, definitions) if each not in reached]
        rows = [row for _, node in reached for row in node.body]
        rows += [row for _, tree in self.trees() for node in ast.walk(tree) if isinstance(node, ast.Try) for row in node.finalbody]
        for row in rows:
            for inner in ast.walk(row):
                self.assertNotIsInstance(inner, (ast.Add, ast.Sub, ast.UAdd, ast.USub), f"row {row.lineno}")

    def test_imports_go_one_way(self):
        """Each import is used, and no two files import from each other, not through others either."""
        imports = {}
        for path, tree in self.trees():
            words = {node.id for node in ast.walk(tree) if isinstance(node, ast.Name)}
            rows = [node for node in tree.body if isinstance(node, ast.ImportFrom)]
            self.assertEqual([], [name.name for row in rows for name in row.names if name.name not in words], path)
            imports[path.stem] = {row.module.split(".")[1] for row in rows}
        while imports:
            free = [name for name in imports if not imports[name] & imports.keys()]
            self.assertTrue(free, imports)
            for name in free:
                del imports[name]

    def test_generator_expressions(self):
        for path, tree in self.trees():
            for node in ast.walk(tree):
                self.assertNotIsInstance(node, ast.GeneratorExp, path)


if __name__ == "__main__":
    unittest.main()
