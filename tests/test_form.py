"""The rules of the language that can be seen from a file alone, for every file of the package."""

import ast
import builtins
import pathlib
import re
import unittest

PACKAGE = pathlib.Path(__file__).resolve().parent.parent / "tonemirror"

STATEMENTS = (
    ast.FunctionDef, ast.ClassDef, ast.Return, ast.Assign, ast.AugAssign, ast.For, ast.While, ast.If,
    ast.Raise, ast.Try, ast.ImportFrom, ast.Expr, ast.Pass, ast.Break, ast.Continue,
)
EXPRESSIONS = (
    ast.BoolOp, ast.BinOp, ast.UnaryOp, ast.Lambda, ast.IfExp, ast.Dict, ast.ListComp, ast.Compare, ast.Call,
    ast.JoinedStr, ast.FormattedValue, ast.Constant, ast.Attribute, ast.Subscript, ast.Name, ast.List, ast.Tuple,
    ast.Slice,
)
BUILT_IN = """
len range enumerate zip min max sum abs sorted reversed int str bool list tuple dict set frozenset isinstance ord
repr any all divmod Exception ValueError TypeError KeyError IndexError LookupError ZeroDivisionError ArithmeticError
OverflowError RuntimeError NotImplementedError AttributeError StopIteration
""".split()
METHODS = """
append clear copy count endswith extend find get index insert isalnum isalpha isdigit islower isspace isupper items
join keys ljust lower lstrip partition pop remove replace reverse rfind rjust rpartition rsplit rstrip setdefault
split splitlines startswith strip update upper values zfill bit_length
""".split()
WORDS_OUT = """
type typing typing_extensions enum Enum IntEnum StrEnum Flag IntFlag Generic Protocol ABC ABCMeta namedtuple
NamedTuple TypedDict TYPE_CHECKING abstractmethod
""".split()
WALKED = ["zip", "enumerate", "reversed", "range"]
WALKED_METHODS = ["items", "keys", "values"]
WALKERS = ["list", "tuple", "dict", "sorted", "sum", "any", "all", "enumerate", "zip", "min", "max"]
METHODS_OF_CLASSES = ["__init__", "__eq__", "__repr__", "__str__", "__len__"]
PIECES_OUT = ["dataclass", "overload", "contextmanager"]
KEYWORDS = {
    "sorted": ["key", "reverse"], "min": ["key", "default"], "max": ["key", "default"], "sum": ["start"],
    "enumerate": ["start"], "zip": ["strict"],
}
# Names that Python's own values have, and those of them that own methods and values may bear all the same.
PYTHONS_OWN = [name for kind in (str, int, list, dict, set, frozenset, bytes, tuple) for name in dir(kind)]
FREE_METHODS = METHODS + ["add", "discard"]
FREE_VALUES = "count index title find get join lower upper split strip copy add".split()


def files():
    return sorted(PACKAGE.rglob("*.py"))


def bound_names(tree):
    """Names that the file itself makes: defs, classes, imports, parameters and assigned names."""
    names = []
    for node in ast.walk(tree):
        if isinstance(node, (ast.FunctionDef, ast.ClassDef)):
            names.append(node.name)
        elif isinstance(node, ast.arg):
            names.append(node.arg)
        elif isinstance(node, ast.alias):
            names.append(node.asname or node.name)
        elif isinstance(node, ast.Name) and isinstance(node.ctx, ast.Store):
            names.append(node.id)
        elif isinstance(node, ast.ExceptHandler) and node.name:
            names.append(node.name)
    return names


def drawn_from(tree):
    """The package's own files that a file draws from, by the names of the files."""
    return [node.module.rpartition(".")[2] for node in tree.body if isinstance(node, ast.ImportFrom)]


def classes():
    """The files' names and the classes in them."""
    for path in files():
        for node in ast.walk(ast.parse(path.read_text())):
            if isinstance(node, ast.ClassDef):
                yield path.name, node


def methods_of(one):
    return [part for part in one.body if isinstance(part, ast.FunctionDef)]


def called_name(node):
    """The name of what is called, of a plain name or a method."""
    if not isinstance(node, ast.Call):
        return ""
    return node.func.attr if isinstance(node.func, ast.Attribute) else getattr(node.func, "id", "")


def own_methods():
    """Names of methods and of values of the package's own classes."""
    names = []
    for path in files():
        for node in ast.walk(ast.parse(path.read_text())):
            if isinstance(node, ast.ClassDef):
                names.extend(part.name for part in node.body if isinstance(part, ast.FunctionDef))
            if isinstance(node, ast.Attribute) and isinstance(node.ctx, ast.Store):
                names.append(node.attr)
    return names


class Files(unittest.TestCase):
    def test_the_package_holds_only_plain_files(self):
        self.assertTrue((PACKAGE / "__init__.py").is_file())
        for path in PACKAGE.rglob("*"):
            if "__pycache__" not in path.parts:
                self.assertRegex(path.name, r"\A[a-z0-9_]+\.py\Z")

    def test_signs_and_sizes(self):
        for path in files():
            with self.subTest(file=path.name):
                text = path.read_bytes().decode("ascii")
                self.assertRegex(text, r"\A[ -~\n]*\Z")
                lines = text.split("\n")
                self.assertLessEqual(len(lines), 400)
                self.assertLessEqual(max(len(line) for line in lines), 120)

    def test_words_that_stand_nowhere(self):
        for path in files():
            with self.subTest(file=path.name):
                text = path.read_text()
                words = re.findall(r"\w+", text)
                self.assertEqual([word for word in words if word in WORDS_OUT], [])
                self.assertEqual([piece for piece in PIECES_OUT if piece in text], [])


class Trees(unittest.TestCase):
    def nodes(self):
        for path in files():
            for node in ast.walk(ast.parse(path.read_text())):
                yield path.name, node

    def test_statements_and_expressions(self):
        for name, node in self.nodes():
            if isinstance(node, ast.stmt):
                self.assertIsInstance(node, STATEMENTS, (name, node.lineno))
            if isinstance(node, ast.expr):
                self.assertIsInstance(node, EXPRESSIONS + (ast.Set,), (name, node.lineno))
            self.assertNotIsInstance(node, (ast.Div, ast.MatMult, ast.Starred))
            if isinstance(node, ast.Constant):
                self.assertIn(type(node.value), (int, str, bool, type(None)), (name, node.lineno))
                self.assertNotIn("%", str(node.value), (name, node.lineno))

    def test_texts_by_themselves_stand_at_a_files_top_alone(self):
        for path in files():
            tree = ast.parse(path.read_text())
            for node in ast.walk(tree):
                if isinstance(node, ast.Expr) and node is not tree.body[0]:
                    self.assertIsInstance(node.value, ast.Call, (path.name, node.lineno))

    def test_assignments_functions_and_comprehensions(self):
        for name, node in self.nodes():
            if isinstance(node, ast.Assign):
                self.assertEqual(len(node.targets), 1, (name, node.lineno))
            if isinstance(node, (ast.For, ast.While)):
                self.assertEqual(node.orelse, [], (name, node.lineno))
            if isinstance(node, ast.ListComp):
                self.assertEqual(len(node.generators), 1, (name, node.lineno))
                self.assertLessEqual(len(node.generators[0].ifs), 1, (name, node.lineno))
            if isinstance(node, (ast.FunctionDef, ast.ClassDef)):
                self.assertEqual(node.decorator_list, [], (name, node.lineno))
            if isinstance(node, ast.FunctionDef):
                self.assertLessEqual(node.end_lineno - node.lineno + 1, 40, (name, node.lineno))
                self.assertEqual((node.args.vararg, node.args.kwarg, node.args.kwonlyargs), (None, None, []))

    def test_imports(self):
        for name, node in self.nodes():
            if isinstance(node, ast.ImportFrom):
                self.assertEqual(node.level, 0, (name, node.lineno))
                self.assertRegex(node.module, r"\Atonemirror\.[a-z_]+\Z")
                self.assertNotIn("*", [alias.name for alias in node.names])

    def test_imports_are_from_the_file_that_defines_the_name(self):
        for name, node in self.nodes():
            if isinstance(node, ast.ImportFrom):
                source = ast.parse((PACKAGE / (node.module.rpartition(".")[2] + ".py")).read_text())
                defined = [part.name for part in source.body if isinstance(part, (ast.FunctionDef, ast.ClassDef))]
                for part in source.body:
                    if isinstance(part, ast.Assign):
                        defined.append(part.targets[0].id)
                for alias in node.names:
                    self.assertIn(alias.name, defined, (name, node.lineno))

    def test_no_two_files_draw_from_one_another(self):
        left = {path.stem: drawn_from(ast.parse(path.read_text())) for path in files()}
        while left:
            # Files that draw from none that is left are taken away; of a ring none ever is.
            free = [name for name in left if not any(source in left for source in left[name])]
            self.assertNotEqual(free, [], sorted(left))
            for name in free:
                del left[name]

    def test_no_parameter_or_local_is_called_like_an_import_or_a_class(self):
        for path in files():
            tree = ast.parse(path.read_text())
            taken = [node.name for node in tree.body if isinstance(node, ast.ClassDef)]
            for node in tree.body:
                if isinstance(node, ast.ImportFrom):
                    taken.extend(alias.asname or alias.name for alias in node.names)
            for node in ast.walk(tree):
                if isinstance(node, ast.arg):
                    self.assertNotIn(node.arg, taken, (path.name, node.lineno))
                if isinstance(node, ast.Name) and isinstance(node.ctx, ast.Store):
                    self.assertNotIn(node.id, taken, (path.name, node.lineno))

    def test_what_is_walked_is_walked_on_the_spot(self):
        for path in files():
            tree = ast.parse(path.read_text())
            walked = []
            for node in ast.walk(tree):
                if isinstance(node, (ast.For, ast.comprehension)):
                    walked.append(id(node.iter))
                if called_name(node) in WALKERS and isinstance(node.func, ast.Name) and node.args:
                    walked.append(id(node.args[0]))
                if called_name(node) == "join" and isinstance(node.func.value, ast.Constant):
                    walked.append(id(node.args[0]))
            for node in ast.walk(tree):
                if called_name(node) in WALKED + WALKED_METHODS:
                    self.assertIn(id(node), walked, (path.name, node.lineno))

    def test_exponents_are_written(self):
        for name, node in self.nodes():
            if isinstance(node, (ast.BinOp, ast.AugAssign)) and isinstance(node.op, ast.Pow):
                exponent = node.right if isinstance(node, ast.BinOp) else node.value
                self.assertIsInstance(exponent, ast.Constant, (name, node.lineno))
                self.assertIn(exponent.value, range(65), (name, node.lineno))

    def test_is_stands_beside_none_true_and_false_alone(self):
        for name, node in self.nodes():
            if isinstance(node, ast.Compare) and any(isinstance(op, (ast.Is, ast.IsNot)) for op in node.ops):
                values = [part.value for part in node.comparators if isinstance(part, ast.Constant)]
                self.assertTrue(values and all(value in (None, True, False) for value in values), (name, node.lineno))

    def test_names(self):
        for path in files():
            tree = ast.parse(path.read_text())
            bound = bound_names(tree)
            for name in bound:
                if name not in METHODS_OF_CLASSES:
                    self.assertRegex(name, r"\A[A-Za-z][A-Za-z0-9_]*\Z", path.name)
                    self.assertFalse(hasattr(builtins, name), (path.name, name))
            for node in ast.walk(tree):
                if isinstance(node, ast.Name) and isinstance(node.ctx, ast.Load):
                    self.assertIn(node.id, bound + BUILT_IN, (path.name, node.lineno))

    def test_methods(self):
        known = METHODS + own_methods()
        for name, node in self.nodes():
            if isinstance(node, ast.Attribute):
                self.assertIn(node.attr, known, (name, node.lineno))

    def test_sets_are_not_kept(self):
        for path in files():
            tree = ast.parse(path.read_text())
            held = []
            for node in ast.walk(tree):
                if isinstance(node, ast.Call) and getattr(node.func, "id", "") in ("sorted", "len"):
                    held.extend(id(part) for part in ast.walk(node) if part is not node)
                if isinstance(node, ast.Compare):
                    held.extend(id(part) for part in ast.walk(node))
            for node in ast.walk(tree):
                made = isinstance(node, ast.Call) and getattr(node.func, "id", "") in ("set", "frozenset")
                if made or isinstance(node, ast.Set):
                    self.assertIn(id(node), held, (path.name, node.lineno))

    def test_keywords_at_pythons_own_names(self):
        for name, node in self.nodes():
            if isinstance(node, ast.Call) and (isinstance(node.func, ast.Attribute) or node.func.id in BUILT_IN):
                known = KEYWORDS.get(node.func.id, []) if isinstance(node.func, ast.Name) else []
                for keyword in node.keywords:
                    self.assertIn(keyword.arg, known, (name, node.lineno))


class Tops(unittest.TestCase):
    def test_only_plain_values_each_name_once(self):
        for path in files():
            tree = ast.parse(path.read_text())
            names = []
            for node in tree.body:
                if isinstance(node, ast.Assign):
                    self.assertIsInstance(node.targets[0], ast.Name, (path.name, node.lineno))
                    # This refuses all but plain values.
                    ast.literal_eval(node.value)
                    names.append(node.targets[0].id)
                elif isinstance(node, (ast.FunctionDef, ast.ClassDef)):
                    names.append(node.name)
                elif isinstance(node, ast.ImportFrom):
                    names.extend(alias.asname or alias.name for alias in node.names)
                else:
                    self.assertIs(node, tree.body[0], (path.name, node.lineno))
                    self.assertIsInstance(node, ast.Expr)
            self.assertEqual(len(names), len(set(names)), path.name)

    def test_lists_and_dicts_hold_none_and_are_only_read(self):
        for path in files():
            tree = ast.parse(path.read_text())
            kept = [node for node in tree.body if isinstance(node, ast.Assign)]
            kept = [node for node in kept if isinstance(node.value, (ast.List, ast.Dict))]
            names = [node.targets[0].id for node in kept]
            for node in kept:
                inner = [part for part in ast.walk(node.value) if isinstance(part, (ast.List, ast.Dict))]
                self.assertEqual(inner, [node.value], (path.name, node.lineno))
            read = []
            for node in ast.walk(tree):
                if isinstance(node, ast.Subscript) and isinstance(node.ctx, ast.Load):
                    read.append(id(node.value))
                if isinstance(node, ast.Compare):
                    read.extend(id(part) for part in node.comparators)
                if isinstance(node, (ast.For, ast.comprehension)):
                    read.append(id(node.iter))
            for node in ast.walk(tree):
                if isinstance(node, ast.Name) and node.id in names and isinstance(node.ctx, ast.Load):
                    self.assertIn(id(node), read, (path.name, node.lineno))


class Classes(unittest.TestCase):
    def test_stand_at_a_files_top_with_methods_alone(self):
        for path in files():
            tree = ast.parse(path.read_text())
            for node in ast.walk(tree):
                if isinstance(node, ast.ClassDef):
                    self.assertIn(node, tree.body, (path.name, node.lineno))
                    self.assertLessEqual(len(node.bases), 1, (path.name, node.lineno))
                    self.assertEqual(node.keywords, [], (path.name, node.lineno))
                    for part in node.body:
                        self.assertIsInstance(part, (ast.FunctionDef, ast.Pass), (path.name, part.lineno))

    def test_no_method_stands_twice(self):
        for name, one in classes():
            methods = [part.name for part in methods_of(one)]
            self.assertEqual(len(methods), len(set(methods)), (name, one.name))

    def test_names_of_methods_and_values(self):
        methods = [part.name for name, one in classes() for part in methods_of(one)]
        methods = [name for name in methods if name not in METHODS_OF_CLASSES]
        values = []
        for path in files():
            for node in ast.walk(ast.parse(path.read_text())):
                if isinstance(node, ast.Attribute) and isinstance(node.ctx, ast.Store):
                    self.assertIsInstance(node.value, ast.Name, (path.name, node.lineno))
                    values.append(node.attr)
        self.assertEqual([name for name in methods if name in values], [])
        self.assertEqual([name for name in methods if name in PYTHONS_OWN and name not in FREE_METHODS], [])
        self.assertEqual([name for name in values if name in PYTHONS_OWN and name not in FREE_VALUES], [])

    def test_making_an_object_gives_back_nothing(self):
        for name, one in classes():
            for method in methods_of(one):
                if method.name == "__init__":
                    for node in ast.walk(method):
                        if isinstance(node, ast.Return):
                            self.assertIsNone(node.value, (name, node.lineno))

    def test_are_called_raised_taken_or_bases(self):
        names = [one.name for path, one in classes()]
        for path in files():
            tree = ast.parse(path.read_text())
            used = []
            for node in ast.walk(tree):
                if isinstance(node, ast.Call):
                    used.append(id(node.func))
                    if called_name(node) == "isinstance":
                        used.extend(id(part) for part in ast.walk(node.args[1]))
                if isinstance(node, ast.ClassDef):
                    used.extend(id(base) for base in node.bases)
                if isinstance(node, ast.ExceptHandler) and node.type:
                    used.extend(id(part) for part in ast.walk(node.type))
            for node in ast.walk(tree):
                if isinstance(node, ast.Name) and node.id in names:
                    self.assertIn(id(node), used, (path.name, node.lineno))


if __name__ == "__main__":
    unittest.main()
