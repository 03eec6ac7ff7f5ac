"""Looks through the package's files for what the small part of Python that it keeps to leaves out."""

import ast
import builtins
import pathlib
import re
import unittest

FOLDER = pathlib.Path(__file__).resolve().parent.parent / "holdword"

OWN_NAMES = """len range enumerate zip min max sum abs sorted reversed int str bool bytes list tuple dict set frozenset
isinstance ord repr any all divmod Exception ValueError TypeError KeyError IndexError LookupError ZeroDivisionError
ArithmeticError OverflowError RuntimeError NotImplementedError AttributeError StopIteration object""".split()

METHODS = """append clear copy count endswith extend find get index insert isalnum isalpha isdigit islower isspace
isupper items join keys ljust lower lstrip partition pop remove replace reverse rfind rjust rpartition rsplit rstrip
setdefault split splitlines startswith strip update upper values zfill bit_length sort add discard""".split()

BARRED_WORDS = """type typing typing_extensions enum Enum IntEnum StrEnum Flag IntFlag Generic Protocol ABC ABCMeta
namedtuple NamedTuple TypedDict TYPE_CHECKING abstractmethod""".split()

BARRED_NAMES = """register mro elements open input version_info with_traceback add_note attrgetter breakpoint builtins
compile copyright credits delattr dir eval exec exit gc getattr globals hasattr help id importlib license locals
methodcaller os quit setattr super type vars sys chr""".split()

LEFT_OUT = (
    ast.AsyncFunctionDef, ast.AsyncFor, ast.AsyncWith, ast.Await, ast.With, ast.Match, ast.Global, ast.Nonlocal,
    ast.Yield, ast.YieldFrom, ast.GeneratorExp, ast.NamedExpr, ast.Import, ast.Div, ast.MatMult,
)

WALKED = ["zip", "enumerate", "reversed", "range", "items", "keys", "values"]
TAKERS = ["list", "tuple", "dict", "sorted", "sum", "any", "all", "enumerate", "zip", "min", "max"]

UNDERSCORED = ["__init__", "__eq__", "__repr__", "__str__", "__len__"]


def sources():
    return {path.name: path.read_text(encoding="utf-8")
            for path in sorted(FOLDER.iterdir()) if path.name != "__pycache__"}


def trees():
    return {name: ast.parse(text) for name, text in sources().items()}


def parents(tree):
    """Tell what each part of a file stands straight within."""
    return {inner: outer for outer in ast.walk(tree) for inner in ast.iter_child_nodes(outer)}


def bound_names(tree):
    """Tell each name that a file binds, at its top or in a def."""
    for node in ast.walk(tree):
        if isinstance(node, ast.Name) and not isinstance(node.ctx, ast.Load):
            yield node, node.id
        elif isinstance(node, ast.arg):
            yield node, node.arg
        elif isinstance(node, (ast.FunctionDef, ast.ClassDef)):
            yield node, node.name
        elif isinstance(node, ast.ExceptHandler) and node.name:
            yield node, node.name


class Language(unittest.TestCase):
    def test_files_have_plain_names(self):
        names = list(sources())
        self.assertIn("__init__.py", names)
        for name in names:
            self.assertRegex(name, r"^[a-z][a-z0-9_]*\.py$|^__init__\.py$")

    def test_signs_and_sizes(self):
        for name, text in sources().items():
            self.assertRegex(text, r"^[\n -~]*$", name)
            lines = text.split("\n")
            self.assertLessEqual(len(lines), 401, name)
            for at, line in enumerate(lines, start=1):
                self.assertLessEqual(len(line), 120, (name, at))

    def test_defs_are_short(self):
        for name, tree in trees().items():
            for node in ast.walk(tree):
                if isinstance(node, ast.FunctionDef):
                    self.assertLessEqual(node.end_lineno - node.lineno + 1, 40, (name, node.name))

    def test_nothing_left_out_is_used(self):
        for name, tree in trees().items():
            for node in ast.walk(tree):
                self.assertNotIsInstance(node, LEFT_OUT, (name, getattr(node, "lineno", 0)))
                if isinstance(node, (ast.FunctionDef, ast.ClassDef)):
                    self.assertEqual(node.decorator_list, [], (name, node.name))
                if isinstance(node, (ast.For, ast.While)):
                    self.assertEqual(node.orelse, [], (name, node.lineno))
                if isinstance(node, ast.Constant):
                    self.assertNotIsInstance(node.value, (float, complex), (name, node.lineno))
                    if isinstance(node.value, str):
                        self.assertNotIn("%", node.value, (name, node.lineno))
                if isinstance(node, ast.Compare):
                    for sign, right in zip(node.ops, node.comparators):
                        if isinstance(sign, (ast.Is, ast.IsNot)):
                            self.assertIn(ast.unparse(right), ("None", "True", "False"), (name, node.lineno))
                if isinstance(node, ast.FormattedValue):
                    self.assertIsNone(node.format_spec, (name, node.lineno))
                if isinstance(node, ast.arguments):
                    self.assertFalse(node.vararg or node.kwarg or node.posonlyargs, name)

    def test_imports(self):
        defined = {}
        for name, tree in trees().items():
            defined[name] = [node.name for node in tree.body if isinstance(node, (ast.FunctionDef, ast.ClassDef))]
            defined[name] += [target.id for node in tree.body if isinstance(node, ast.Assign)
                              for target in node.targets]
        for name, tree in trees().items():
            for node in ast.walk(tree):
                if isinstance(node, ast.ImportFrom):
                    self.assertEqual(node.level, 0, name)
                    self.assertTrue(node.module.startswith("holdword."), (name, node.module))
                    for drawn in node.names:
                        self.assertIn(drawn.name, defined[node.module.split(".")[1] + ".py"], name)
                        self.assertIsNone(drawn.asname, name)

    def test_no_file_draws_from_itself_round_about(self):
        drawn = {name[:-3]: {node.module.split(".")[1] for node in ast.walk(tree) if isinstance(node, ast.ImportFrom)}
                 for name, tree in trees().items()}
        left = dict(drawn)
        while left:
            free = [name for name, others in left.items() if not others & set(left)]
            self.assertTrue(free, sorted(left))
            for name in free:
                del left[name]

    def test_names(self):
        for name, tree in trees().items():
            drawn = [alias.name for node in ast.walk(tree) if isinstance(node, ast.ImportFrom) for alias in node.names]
            for node, bound in bound_names(tree):
                if bound in UNDERSCORED:
                    continue
                where = (name, node.lineno, bound)
                self.assertRegex(bound, r"^[A-Za-z][A-Za-z0-9_]*$", where)
                self.assertNotIn(bound, BARRED_NAMES + drawn, where)
                self.assertFalse(hasattr(builtins, bound), where)

    def test_names_of_python(self):
        for name, tree in trees().items():
            known = {bound for node, bound in bound_names(tree)}
            known |= {alias.name for node in ast.walk(tree) if isinstance(node, ast.ImportFrom) for alias in node.names}
            for node in ast.walk(tree):
                if isinstance(node, ast.Name) and node.id not in known:
                    self.assertIn(node.id, OWN_NAMES, (name, node.lineno))

    def test_walked_at_once(self):
        for name, tree in trees().items():
            above = parents(tree)
            for node in ast.walk(tree):
                if not isinstance(node, ast.Call):
                    continue
                own = getattr(node.func, "id", None) or getattr(node.func, "attr", None)
                if own in WALKED:
                    outer = above[node]
                    is_walked = isinstance(outer, (ast.For, ast.comprehension)) and outer.iter == node
                    is_taken = (isinstance(outer, ast.Call) and getattr(outer.func, "id", None) in TAKERS
                                and outer.args[0] == node)
                    self.assertTrue(is_walked or is_taken, (name, node.lineno, own))

    def test_sets_are_asked_at_once(self):
        for name, tree in trees().items():
            above = parents(tree)
            for node in ast.walk(tree):
                is_call = isinstance(node, ast.Call) and getattr(node.func, "id", None) in ("set", "frozenset")
                if is_call or isinstance(node, (ast.Set, ast.SetComp)):
                    outer = above[node]
                    is_taken = isinstance(outer, ast.Call) and getattr(outer.func, "id", None) in ("sorted", "len")
                    self.assertTrue(is_taken or isinstance(outer, ast.Compare), (name, node.lineno))

    def test_stars_stand_in_what_is_given(self):
        for name, tree in trees().items():
            for node in ast.walk(tree):
                if isinstance(node, ast.Starred):
                    self.assertIsInstance(node.ctx, ast.Store, (name, node.lineno))

    def test_names_that_a_file_draws_are_used(self):
        for name, tree in trees().items():
            used = {node.id for node in ast.walk(tree) if isinstance(node, ast.Name)}
            for node in tree.body:
                if isinstance(node, ast.ImportFrom):
                    for drawn in node.names:
                        self.assertIn(drawn.name, used, name)

    def test_methods(self):
        own = {node.name for tree in trees().values() for top in tree.body if isinstance(top, ast.ClassDef)
               for node in top.body if isinstance(node, ast.FunctionDef)}
        for name, tree in trees().items():
            for node in ast.walk(tree):
                if isinstance(node, ast.Call) and isinstance(node.func, ast.Attribute):
                    self.assertIn(node.func.attr, METHODS + sorted(own), (name, node.lineno))

    def test_no_name_is_both_a_method_and_a_value(self):
        methods = set()
        values = set()
        for tree in trees().values():
            for node in ast.walk(tree):
                if isinstance(node, ast.ClassDef):
                    methods |= {part.name for part in node.body if isinstance(part, ast.FunctionDef)}
                if isinstance(node, ast.Attribute) and isinstance(node.ctx, ast.Store):
                    values.add(node.attr)
        self.assertEqual(methods & values, set())

    def test_names_at_the_top_are_bound_once(self):
        for name, tree in trees().items():
            bound = [node.name for node in tree.body if isinstance(node, (ast.FunctionDef, ast.ClassDef))]
            bound += [target.id for node in tree.body if isinstance(node, ast.Assign) for target in node.targets]
            bound += [alias.name for node in tree.body if isinstance(node, ast.ImportFrom) for alias in node.names]
            self.assertEqual(len(bound), len(set(bound)), name)

    def test_words_that_stand_nowhere(self):
        for name, text in sources().items():
            words = set(re.findall(r"[A-Za-z_][A-Za-z0-9_]*", text))
            self.assertEqual(words & set(BARRED_WORDS), set(), name)


if __name__ == "__main__":
    unittest.main()
