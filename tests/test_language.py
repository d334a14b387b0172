"""The rules of the language that can be seen in one file (the numbers are those of the rules)."""

import ast
import builtins
import pathlib
import re
import unittest

PACKAGE = pathlib.Path(__file__).resolve().parent.parent / "openrings"
BUILTINS = set("""len range enumerate zip min max sum abs sorted reversed int str bool list tuple dict set isinstance
ord repr any all divmod super property ValueError TypeError KeyError IndexError LookupError""".split())
METHODS = set("""append clear copy count endswith extend find get index insert isalnum isalpha isdigit islower isspace
isupper items join keys ljust lower lstrip partition pop remove replace reverse rfind rjust rpartition rsplit rstrip
setdefault split splitlines startswith strip update upper values zfill bit_length add discard""".split())
BARRED = set("""mro elements open input law version_info with_traceback add_note register attrgetter breakpoint builtins
compile copyright credits delattr dir eval exec exit gc getattr globals hasattr help id importlib license locals
methodcaller os quit setattr type vars sys""".split())
STATEMENTS = (ast.Assign, ast.AugAssign, ast.If, ast.While, ast.For, ast.Return, ast.Break, ast.Continue, ast.Pass,
              ast.Raise, ast.Expr, ast.FunctionDef, ast.ClassDef, ast.ImportFrom, ast.Delete, ast.Try)
BARRED_NODES = (ast.Lambda, ast.Await, ast.Yield, ast.YieldFrom, ast.GeneratorExp, ast.Global, ast.Nonlocal,
                ast.Import, ast.Starred, ast.NamedExpr, ast.Div, ast.Pow, ast.MatMult)
BARRED_ATTRIBUTES = set("""items keys values pop update append clear extend insert remove reverse setdefault sort args encode
decode hex fromhex format format_map mro""".split())
DOUBLE = ("__init__", "__len__", "__getitem__", "__iter__", "__eq__")


def files():
    return sorted(path for path in PACKAGE.iterdir() if path.name != "__pycache__")


def nodes(path, *kinds):
    return [node for node in ast.walk(ast.parse(path.read_text())) if isinstance(node, kinds)]


def bound(path):
    """The names that a file gives to functions, classes, parameters and variables."""
    found = {node.id for node in nodes(path, ast.Name) if isinstance(node.ctx, ast.Store)}
    found |= {node.name for node in nodes(path, ast.FunctionDef, ast.ClassDef)}
    return found | {node.arg for node in nodes(path, ast.arg)}


class Language(unittest.TestCase):
    def test_files(self):
        for path in files():
            self.assertRegex(path.name, r"\A[a-z_]+\.py\Z")
            text = path.read_text(encoding="utf-8")
            self.assertRegex(text, r"\A[ -~\n]*\Z", path.name)
            lines = text.split("\n")
            self.assertLessEqual(len(lines), 399, path.name)
            self.assertLessEqual(max(len(line) for line in lines), 120, path.name)
            self.assertNotIn("%", "".join(node.value for node in nodes(path, ast.Constant)
                                          if isinstance(node.value, str)))

    def test_size_of_functions(self):
        for path in files():
            for node in nodes(path, ast.FunctionDef):
                self.assertLessEqual(node.end_lineno - node.lineno + 1, 40, node.name)

    def test_imports_l2_l16(self):
        for path in files():
            tree = ast.parse(path.read_text())
            for node in nodes(path, ast.ImportFrom):
                self.assertIn(node, nodes_at_top(tree, node))
                folder, name = node.module.split(".")
                self.assertEqual((folder, node.level), ("openrings", 0))
                defined = bound(PACKAGE / f"{name}.py")
                for alias in node.names:
                    self.assertIn(alias.name, defined)
                    self.assertIsNone(alias.asname)

    def test_module_level_l3(self):
        for path in files():
            for node in ast.parse(path.read_text()).body:
                if isinstance(node, ast.Assign):
                    ast.literal_eval(node.value)
                else:
                    self.assertIsInstance(node, (ast.ImportFrom, ast.FunctionDef, ast.ClassDef, ast.Expr))

    def test_statements_and_expressions_l6_l7(self):
        for path in files():
            for node in nodes(path, ast.stmt):
                self.assertIsInstance(node, STATEMENTS, path.name)
            self.assertEqual(nodes(path, *BARRED_NODES), [], path.name)
            for node in nodes(path, ast.Constant):
                self.assertNotIsInstance(node.value, (float, complex, bytes))
            for node in nodes(path, ast.FunctionDef, ast.ClassDef):
                self.assertEqual(node.decorator_list, [])

    def test_no_nested_functions(self):
        for path in files():
            for node in nodes(path, ast.FunctionDef):
                inner = [one for one in ast.walk(node) if isinstance(one, (ast.FunctionDef, ast.ClassDef))]
                self.assertEqual(inner, [node])

    def test_builtins_l8(self):
        for path in files():
            used = {node.id for node in nodes(path, ast.Name)} & set(dir(builtins))
            self.assertEqual(used - BUILTINS, set(), path.name)

    def test_names_l12_l15_l17(self):
        for path in files():
            names = bound(path)
            self.assertEqual(names & (set(dir(builtins)) | BARRED), set(), path.name)
            for name in names:
                self.assertTrue(name in DOUBLE or name == "_" or not name.startswith("_"), name)
            self.assertEqual([node for node in nodes(path, ast.Name) if node.id == "_" and isinstance(node.ctx, ast.Load)], [])
            imported = {alias.name for node in nodes(path, ast.ImportFrom) for alias in node.names}
            self.assertEqual(names & imported, set(), path.name)
            words = re.findall(r"\w+", path.read_text())
            self.assertEqual(set(words) & {"type", "typing", "enum", "dataclass", "overload"}, set(), path.name)

    def test_methods_l25(self):
        own = {node.name for path in files() for node in nodes(path, ast.FunctionDef)}
        for path in files():
            for node in nodes(path, ast.Call):
                if isinstance(node.func, ast.Attribute):
                    self.assertIn(node.func.attr, METHODS | own | {"__init__"}, path.name)

    def test_is_l20(self):
        for path in files():
            for node in nodes(path, ast.Compare):
                for sign, right in zip(node.ops, node.comparators):
                    if isinstance(sign, (ast.Is, ast.IsNot)):
                        self.assertIsInstance(right, ast.Constant)
                        self.assertIn(right.value, (None, True, False))


    def test_errors_that_are_caught_l19(self):
        own = {node.name for node in nodes(PACKAGE / "errors.py", ast.ClassDef)}
        for path in files():
            for node in nodes(path, ast.Try):
                self.assertEqual(node.finalbody, [])
                for handler in node.handlers:
                    names = handler.type.elts if isinstance(handler.type, ast.Tuple) else [handler.type]
                    self.assertEqual({name.id for name in names} - own, set(), path.name)

    def test_attributes_l18_l26(self):
        stored = {node.attr for path in files() for node in nodes(path, ast.Attribute) if isinstance(node.ctx, ast.Store)}
        read = {node.attr for path in files() for node in nodes(path, ast.Attribute) if isinstance(node.ctx, ast.Load)}
        methods = {node.name for path in files() for kind in nodes(path, ast.ClassDef) for node in kind.body
                   if isinstance(node, ast.FunctionDef)}
        self.assertEqual(stored & BARRED_ATTRIBUTES, set())
        self.assertEqual(methods & (BARRED_ATTRIBUTES | METHODS), set())
        self.assertEqual(stored & methods, set())
        self.assertEqual(read - stored - methods - METHODS, set())
        for path in files():
            for node in nodes(path, ast.Attribute):
                if isinstance(node.ctx, ast.Store):
                    self.assertIsInstance(node.value, ast.Name, path.name)

    def test_deleted_items_l6(self):
        for path in files():
            for node in nodes(path, ast.Delete):
                for target in node.targets:
                    self.assertIsInstance(target, ast.Subscript, path.name)

    def test_iterated_at_once_l23(self):
        for path in files():
            tree = ast.parse(path.read_text())
            inside = [node.iter for node in ast.walk(tree) if isinstance(node, (ast.For, ast.comprehension))]
            inside += [node.args[0] for node in ast.walk(tree) if isinstance(node, ast.Call) and node.args
                       and isinstance(node.func, ast.Name) and node.func.id in ("list", "tuple", "dict", "sorted", "sum")]
            inside = [ast.dump(node) for node in inside]
            for node in nodes(path, ast.Call):
                name = node.func.attr if isinstance(node.func, ast.Attribute) else getattr(node.func, "id", "")
                if name in ("items", "keys", "values", "zip", "enumerate", "reversed", "range"):
                    self.assertIn(ast.dump(node), inside, path.name)

    def test_tests_stand_beside_the_package(self):
        self.assertEqual([path.name for path in files() if "test" in path.name], [])


def nodes_at_top(tree, node):
    """The imports of a file, those above all other statements, with the given one if it is like them."""
    top = []
    for one in tree.body:
        if isinstance(one, ast.ImportFrom):
            top.append(one)
        elif not isinstance(one, ast.Expr):
            break
    return [node for one in top if ast.dump(one) == ast.dump(node)]


if __name__ == "__main__":
    unittest.main()
