"""What the language rules ask of every file, as far as it is told without judgement."""

import ast
import builtins
import pathlib
import unittest
import warnings

PACKAGE = pathlib.Path(__file__).resolve().parent.parent / "whomaysign"
LIBRARY = {"heapq", "math", "itertools"}
DOUBLE = {"__init__", "__eq__", "__len__", "__getitem__", "__iter__", "__enter__", "__exit__"}
PROPERTIES = {"row"}

# A session of Python, or an example that is run, may have put its last value there as _.
BUILTINS = set(dir(builtins)) - {"_"}

INTERFACE = {
    "errors": {
        "SignError": [], "BadPeople": ["__init__"], "BadLot": ["__init__"], "BadClause": ["__init__"],
        "BadBook": ["__init__"], "BadRow": ["__init__"], "BadWish": ["__init__"], "BadNumber": ["__init__"],
        "BadPaper": ["__init__"], "BadText": ["__init__"], "TooMany": ["__init__"]},
    "people": {"need_people": None, "is_lot": None, "all_lots": None},
    "clauses": {"Clause": ["__init__", "__eq__", "changed"]},
    "books": {"Book": [
        "__init__", "__len__", "__getitem__", "__eq__", "adding", "without", "lending", "as_one", "leaving"]},
    "hands": {
        "fillers": None, "signs": None, "filling": None, "short": None, "is_filling": None, "is_short": None},
    "covers": {"least_cost": None, "cover": None, "is_cover": None, "spread": None},
    "reach": {"keeps": None, "makes": None, "at_once": None, "gathers": None, "paper": None, "check": None},
    "lots": {"fulfils": None, "least_lots": None, "bars": None, "levels": None, "spared": None},
    "compare": {"alike": None, "parting": None, "never_needed": None},
    "second": {"signs_too": None, "cost_too": None},
    "desk": {
        "Desk": ["__init__", "row", "__len__", "day", "left", "pay", "undo", "__eq__", "trial"], "tried": None},
    "texts": {"clause_text": None, "read_clause": None, "book_text": None, "read_book": None},
}


def trees():
    for path in sorted(PACKAGE.glob("*.py")):
        text = path.read_text(encoding="utf-8")
        yield path, text, ast.parse(text)


class Files(unittest.TestCase):

    def test_the_folder_holds_nothing_else(self):
        for path in PACKAGE.iterdir():
            self.assertTrue(path.suffix == ".py" or path.name == "__pycache__", path)
        self.assertTrue((PACKAGE / "__init__.py").is_file())

    def test_sizes_and_characters(self):
        for path, text, tree in trees():
            self.assertLessEqual(len(text.splitlines()), 399, path)
            self.assertLessEqual(max(len(line) for line in text.splitlines()), 120, path)
            self.assertTrue(all(" " <= sign <= "~" or sign == "\n" for sign in text), path)
            for node in ast.walk(tree):
                if isinstance(node, ast.FunctionDef):
                    self.assertLessEqual(node.end_lineno - node.lineno + 1, 40, (path, node.name))
                if isinstance(node, ast.Constant) and isinstance(node.value, (str, bytes)):
                    self.assertNotIn("%", str(node.value), path)

    def test_imports(self):
        for path, _, tree in trees():
            for node in ast.walk(tree):
                self.assertNotIsInstance(node, ast.Import, path)
                if isinstance(node, ast.ImportFrom):
                    self.assertEqual(node.level, 0, path)
                    self.assertTrue(node.module.startswith("whomaysign.") or node.module in LIBRARY, path)

    def test_module_level(self):
        for path, _, tree in trees():
            for at, node in enumerate(tree.body):
                docstring = at == 0 and isinstance(node, ast.Expr) and isinstance(node.value, ast.Constant)
                plain = (ast.ImportFrom, ast.FunctionDef, ast.ClassDef, ast.Assign)
                self.assertTrue(docstring or isinstance(node, plain), (path, node.lineno))

    def test_nothing_that_the_rules_bar(self):
        barred = (
            ast.Global, ast.AsyncFunctionDef, ast.Await, ast.AsyncFor, ast.AsyncWith, ast.Div, ast.GeneratorExp)
        for path, _, tree in trees():
            for node in ast.walk(tree):
                self.assertNotIsInstance(node, barred, path)
                if isinstance(node, ast.FunctionDef):
                    decorators = ["property"] if node.name in PROPERTIES else []
                    self.assertEqual([ast.unparse(sign) for sign in node.decorator_list], decorators, (path, node.name))
                    if node.name.startswith("__"):
                        self.assertIn(node.name, DOUBLE, path)
                if isinstance(node, ast.Constant):
                    self.assertNotIsInstance(node.value, float, path)

    def test_no_name_hides_an_import_or_a_class(self):
        for path, _, tree in trees():
            named = {name.name for node in tree.body if isinstance(node, ast.ImportFrom) for name in node.names}
            named |= {node.name for node in tree.body if isinstance(node, ast.ClassDef)} | BUILTINS
            for node in ast.walk(tree):
                if isinstance(node, ast.arg):
                    self.assertNotIn(node.arg, named, path)
                if isinstance(node, ast.Name) and isinstance(node.ctx, ast.Store):
                    self.assertNotIn(node.id, named, path)

    def test_no_warnings(self):
        with warnings.catch_warnings():
            warnings.simplefilter("error")
            for path, text, _ in trees():
                compile(text, str(path), "exec")

    def test_interface_stands_where_it_is_listed(self):
        for name, listed in INTERFACE.items():
            tree = ast.parse((PACKAGE / f"{name}.py").read_text(encoding="utf-8"))
            defined = {node.name: node for node in tree.body if isinstance(node, (ast.ClassDef, ast.FunctionDef))}
            for thing, methods in listed.items():
                self.assertIn(thing, defined)
                kind = ast.FunctionDef if methods is None else ast.ClassDef
                self.assertIsInstance(defined[thing], kind)
                own = [node.name for node in defined[thing].body if isinstance(node, ast.FunctionDef)]
                for method in methods or []:
                    self.assertIn(method, own)


if __name__ == "__main__":
    unittest.main()
