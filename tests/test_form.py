"""The form of the code: rules of LANGUAGE.md that can be seen in the files of the package."""

import ast
import builtins
import pathlib
import unittest

PACKAGE = pathlib.Path(__file__).resolve().parent.parent / "curveseal"

LIBRARY = {
    "math": {"gcd", "lcm", "isqrt", "comb", "perm", "factorial"},
    "heapq": {"heappush", "heappop", "heapify", "heapreplace", "heappushpop"},
    "itertools": {
        "product", "combinations", "permutations", "chain", "accumulate", "pairwise", "islice", "zip_longest",
    },
    "collections": {"defaultdict"},
}
BUILTINS = set(
    "len range enumerate zip min max sum abs sorted reversed int str bool list tuple dict set frozenset isinstance "
    "ord repr any all divmod super Exception ValueError TypeError KeyError IndexError LookupError ZeroDivisionError "
    "ArithmeticError OverflowError RuntimeError NotImplementedError AttributeError StopIteration".split()
)
BUILTIN_METHODS = set(
    "append clear copy count endswith extend find get index insert isalnum isalpha isdigit islower isspace isupper "
    "items join keys ljust lower lstrip partition pop remove replace reverse rfind rjust rpartition rsplit rstrip "
    "setdefault split splitlines startswith strip update upper values zfill bit_length sort".split()
)
# L26: own methods and attributes do not have the names of the methods of builtin values, but for these.
FREE_METHODS = {"add", "discard"}
UNUSED_NAMES = set(
    "register mro elements open input law version_info with_traceback add_note attrgetter breakpoint builtins compile "
    "copyright credits delattr dir eval exec exit gc getattr globals hasattr help id importlib license locals "
    "methodcaller os quit setattr type vars sys".split()
)
UNUSED_WORDS = (
    "typing enum Enum Flag Generic Protocol ABC ABCMeta namedtuple NamedTuple dataclass overload contextmanager "
    "_wall _WallAttr".split()
)
ALLOWED_STATEMENTS = (
    ast.Assign, ast.AugAssign, ast.If, ast.While, ast.For, ast.Return, ast.Break, ast.Continue, ast.Pass, ast.Raise,
    ast.Expr, ast.Try, ast.FunctionDef, ast.ClassDef, ast.ImportFrom, ast.Assert, ast.Delete, ast.Nonlocal,
)


def files():
    return sorted(PACKAGE.glob("*.py"))


def trees():
    return [(path.name, ast.parse(path.read_text())) for path in files()]


def nodes(kind):
    """Return the pairs (file name, node) of all nodes of a kind."""
    return [(name, node) for name, tree in trees() for node in ast.walk(tree) if isinstance(node, kind)]


def functions():
    return nodes(ast.FunctionDef)


def defined(tree):
    """Return the names that a module binds itself, imports left out."""
    names = []
    for node in tree.body:
        if isinstance(node, (ast.FunctionDef, ast.ClassDef)):
            names.append(node.name)
        elif isinstance(node, ast.Assign):
            names += [target.id for target in node.targets]
    return names


def bases(node):
    """Return the own classes from which a class derives, directly or through other ones."""
    names = [base.id for base in node.bases]
    found = [other for _, other in nodes(ast.ClassDef) if other.name in names]
    return found + [further for other in found for further in bases(other)]


def bound_names():
    """Return the pairs (file name, name) of parameters, variables, functions, classes and imports."""
    found = [(name, node.arg) for name, node in nodes(ast.arg)]
    found += [(name, node.id) for name, node in nodes(ast.Name) if isinstance(node.ctx, ast.Store)]
    found += [(name, node.name) for name, node in nodes((ast.FunctionDef, ast.ClassDef, ast.alias))]
    return found


class FilesTest(unittest.TestCase):
    def test_folder_holds_only_plain_files(self):
        for path in PACKAGE.iterdir():
            if path.name != "__pycache__":
                self.assertRegex(path.name, r"\A[a-z_]+\.py\Z")

    def test_characters(self):
        for path in files():
            for character in set(path.read_text()):
                self.assertTrue(character == "\n" or " " <= character <= "~", (path.name, character))

    def test_sizes(self):
        for path in files():
            lines = path.read_text().split("\n")
            self.assertLessEqual(len(lines), 399, path.name)
            for line in lines:
                self.assertLessEqual(len(line), 120, (path.name, line))
        for name, node in functions():
            self.assertLessEqual(node.end_lineno - node.lineno + 1, 40, (name, node.name))

    def test_unused_words(self):
        for path in files():
            for word in UNUSED_WORDS:
                self.assertNotIn(word, path.read_text().replace("enumerate", ""), path.name)


class ImportsTest(unittest.TestCase):
    def test_imports_name_the_file_that_defines(self):
        known = {f"curveseal.{name[:-3]}": defined(tree) for name, tree in trees()}
        for name, tree in trees():
            for node in ast.walk(tree):
                self.assertNotIsInstance(node, ast.Import, name)
                if isinstance(node, ast.ImportFrom):
                    self.assertIn(node, tree.body)
                    for alias in node.names:
                        allowed = LIBRARY.get(node.module) or known[node.module]
                        self.assertIn(alias.name, allowed, name)
                        self.assertIsNone(alias.asname)

    def test_no_two_files_import_from_each_other(self):
        imports = {}
        for name, tree in trees():
            sources = [node.module for node in tree.body if isinstance(node, ast.ImportFrom)]
            imports[f"curveseal.{name[:-3]}"] = [source for source in sources if source.startswith("curveseal.")]
        settled = set()
        while len(settled) < len(imports):
            free = [name for name in imports if name not in settled and settled.issuperset(imports[name])]
            self.assertTrue(free, "there is a circle of imports")
            settled.update(free)

    def test_every_import_is_used(self):
        for name, tree in trees():
            used = {node.id for node in ast.walk(tree) if isinstance(node, ast.Name)}
            for node in tree.body:
                if isinstance(node, ast.ImportFrom):
                    for alias in node.names:
                        self.assertIn(alias.name, used, name)


class StatementsTest(unittest.TestCase):
    def test_module_level(self):
        for name, tree in trees():
            for node in tree.body:
                allowed = (ast.ImportFrom, ast.FunctionDef, ast.ClassDef, ast.Assign, ast.Expr)
                self.assertIsInstance(node, allowed, name)
                if isinstance(node, ast.Expr):
                    self.assertIs(node, tree.body[0])
                if isinstance(node, ast.Assign):
                    self.check_value(name, tree, node)

    def check_value(self, name, tree, node):
        """Check that a name at module level is assigned a literal, or a dict of functions that stand above it."""
        above = {other.name for other in tree.body if isinstance(other, ast.FunctionDef) and other.lineno < node.lineno}
        if isinstance(node.value, ast.Dict) and all(isinstance(item, ast.Name) for item in node.value.values):
            for key, item in zip(node.value.keys, node.value.values):
                ast.literal_eval(key)
                self.assertIn(item.id, above, name)
        else:
            ast.literal_eval(node.value)

    def test_kinds_of_statements(self):
        for name, node in nodes(ast.stmt):
            self.assertIsInstance(node, ALLOWED_STATEMENTS, (name, node.lineno))

    def test_no_decorators_and_no_annotations(self):
        for name, node in nodes((ast.FunctionDef, ast.ClassDef)):
            self.assertEqual(node.decorator_list, [], (name, node.name))
        for name, node in nodes(ast.arg):
            self.assertIsNone(node.annotation, (name, node.arg))

    def test_docstring_of_every_public_function_and_class(self):
        for name, node in nodes((ast.FunctionDef, ast.ClassDef)):
            if not node.name.startswith("_"):
                self.assertTrue(ast.get_docstring(node), (name, node.name))

    def test_numbers_and_operators(self):
        for name, node in nodes((ast.BinOp, ast.AugAssign)):
            self.assertNotIsInstance(node.op, (ast.Div, ast.MatMult), (name, node.lineno))
            if isinstance(node.op, ast.Pow):
                self.assertIn(ast.literal_eval(node.right), range(65), (name, node.lineno))
        for name, node in nodes(ast.Constant):
            self.assertNotIsInstance(node.value, (float, complex, bytes), (name, node.lineno))
            if isinstance(node.value, str):
                self.assertNotIn("%", node.value, (name, node.lineno))

    def test_is_only_with_none_true_and_false(self):
        for name, node in nodes(ast.Compare):
            for sign, right in zip(node.ops, node.comparators):
                if isinstance(sign, (ast.Is, ast.IsNot)):
                    self.assertIn(ast.unparse(right), ("None", "True", "False"), (name, node.lineno))

    def test_raised_errors_are_made_on_the_spot(self):
        for name, node in nodes(ast.Raise):
            self.assertTrue(node.exc is None or isinstance(node.exc, ast.Call), (name, node.lineno))


class NamesTest(unittest.TestCase):
    def test_builtins_that_are_read(self):
        for name, node in nodes(ast.Name):
            if isinstance(node.ctx, ast.Load) and hasattr(builtins, node.id):
                self.assertIn(node.id, BUILTINS, (name, node.lineno))

    def test_no_name_of_a_builtin_is_bound(self):
        for name, bound in bound_names():
            if bound != "__init__":
                self.assertFalse(hasattr(builtins, bound), (name, bound))

    def test_names_that_are_not_used(self):
        for name, bound in bound_names():
            self.assertNotIn(bound, UNUSED_NAMES, name)

    def test_underscores(self):
        for name, bound in bound_names():
            if bound not in ("__init__", "_"):
                self.assertRegex(bound, r"\A_?[A-Za-z][A-Za-z0-9_]*\Z", name)

    def test_locals_do_not_hide_imports_and_classes(self):
        for name, tree in trees():
            outer = [node.name for node in tree.body if isinstance(node, ast.ClassDef)]
            for node in tree.body:
                if isinstance(node, ast.ImportFrom):
                    outer += [alias.name for alias in node.names]
            inner = [node.arg for node in ast.walk(tree) if isinstance(node, ast.arg)]
            inner += [
                node.id for node in ast.walk(tree) if isinstance(node, ast.Name) and isinstance(node.ctx, ast.Store)
            ]
            self.assertEqual(set(outer) & set(inner), set(), name)

    def test_each_module_level_name_is_bound_once(self):
        for name, tree in trees():
            names = defined(tree)
            self.assertEqual(len(names), len(set(names)), name)

    def test_methods_that_are_called(self):
        own = {node.name for _, node in functions()}
        for name, node in nodes(ast.Call):
            if isinstance(node.func, ast.Attribute):
                self.assertIn(node.func.attr, own | BUILTIN_METHODS, (name, node.lineno))

    def test_names_of_own_methods_and_attributes(self):
        taken = set()
        for kind in (str, int, list, dict, set, tuple, bytes):
            taken.update(word for word in dir(kind) if not word.startswith("__"))
        for name, node in nodes(ast.ClassDef):
            for part in node.body:
                if isinstance(part, ast.FunctionDef):
                    self.assertNotIn(part.name, taken - FREE_METHODS, name)
        for name, node in nodes(ast.Attribute):
            if isinstance(node.ctx, ast.Store):
                self.assertNotIn(node.attr, taken - FREE_METHODS, name)

    def test_no_name_is_a_method_and_an_attribute(self):
        for name, node in nodes(ast.ClassDef):
            family = [node] + bases(node)
            methods = {part.name for each in family for part in each.body if isinstance(part, ast.FunctionDef)}
            attributes = {
                part.attr for each in family for part in ast.walk(each)
                if isinstance(part, ast.Attribute) and isinstance(part.ctx, ast.Store)
            }
            self.assertEqual(methods & attributes, set(), (name, node.name))


if __name__ == "__main__":
    unittest.main()
