"""The form of the package's code: those rules of LANGUAGE.md that a look at the tree of a file can tell.

What this passes may still be outside of the rules; what it refuses is.
"""

import ast
import builtins
import pathlib
import re
import unittest

PACKAGE = pathlib.Path(__file__).resolve().parent.parent / "trueleaf"

NODES = set("""
Module ImportFrom alias FunctionDef arguments arg Lambda ClassDef Assign AugAssign If While For Return Break Continue
Pass Raise Try ExceptHandler Expr Constant List Tuple Dict Set BinOp UnaryOp BoolOp Compare IfExp Call keyword
Attribute Subscript Slice ListComp comprehension JoinedStr FormattedValue Name Load Store
Add Sub Mult FloorDiv Mod Pow BitAnd BitOr BitXor LShift RShift Invert USub UAdd Not And Or
Eq NotEq Lt LtE Gt GtE Is IsNot In NotIn
""".split())

OWN_NAMES = set("""
len range enumerate zip min max sum abs sorted reversed int str bool list tuple dict set frozenset isinstance ord repr
any all divmod Exception ValueError TypeError KeyError IndexError LookupError ZeroDivisionError ArithmeticError
OverflowError RuntimeError NotImplementedError AttributeError StopIteration
""".split())

METHODS = set("""
append clear copy count endswith extend find get index insert isalnum isalpha isdigit islower isspace isupper items
join keys ljust lower lstrip partition pop remove replace reverse rfind rjust rpartition rsplit rstrip setdefault
split splitlines startswith strip update upper values zfill bit_length
""".split())

WALKED = set("zip enumerate reversed range items keys values".split())
WALKERS = set("list tuple dict sorted sum any all enumerate zip min max".split())

NOT_USED = set("""
register mro elements open input version_info with_traceback add_note attrgetter breakpoint builtins compile copyright
credits delattr dir eval exec exit gc getattr globals hasattr help id importlib license locals methodcaller os quit
setattr super type vars sys chr format format_map
""".split())

SPECIAL = ("__init__", "__eq__", "__repr__", "__str__", "__len__")

WORDS = re.compile(
    r"\b(type|typing|typing_extensions|enum|Enum|IntEnum|StrEnum|Flag|IntFlag|Generic|Protocol|ABC|ABCMeta|namedtuple"
    r"|NamedTuple|TypedDict|TYPE_CHECKING|abstractmethod)\b|dataclass|overload|contextmanager")


def files():
    return sorted(path for path in PACKAGE.rglob("*") if path.is_file() and "__pycache__" not in path.parts)


def is_docstring(node):
    return isinstance(node, ast.Expr) and isinstance(node.value, ast.Constant) and isinstance(node.value.value, str)


def bound_names(tree):
    for node in ast.walk(tree):
        if isinstance(node, (ast.FunctionDef, ast.ClassDef)):
            yield node, node.name
        elif isinstance(node, ast.arg):
            yield node, node.arg
        elif isinstance(node, ast.Name) and isinstance(node.ctx, ast.Store):
            yield node, node.id
        elif isinstance(node, ast.ExceptHandler) and node.name:
            yield node, node.name
        elif isinstance(node, ast.alias):
            yield node, node.asname or node.name


def called_name(node):
    if not isinstance(node, ast.Call):
        return None
    return node.func.attr if isinstance(node.func, ast.Attribute) else getattr(node.func, "id", None)


def walked_on_the_spot(tree):
    """What stands where L23 lets it be walked."""
    for node in ast.walk(tree):
        if isinstance(node, (ast.For, ast.comprehension)):
            yield node.iter
        elif called_name(node) in WALKERS and node.args:
            yield node.args[0]
            if called_name(node) == "zip":
                yield from node.args[1:]
        elif called_name(node) == "join" and isinstance(node.func.value, ast.Constant):
            yield node.args[0]


class Form(unittest.TestCase):
    def setUp(self):
        self.trees = [(path, ast.parse(path.read_text())) for path in files() if path.suffix == ".py"]

    def refuse(self, rule, path, node, said):
        self.fail(f"{rule} {path.name}:{getattr(node, 'lineno', node)}: {said}")

    def test_files(self):
        self.assertTrue(files())
        for path in files():
            self.assertRegex(path.name, r"^(__init__|__main__|[a-z][a-z0-9_]*)\.py$")
            self.assertFalse(path.stem in dir(builtins) or re.match(r"test|site$|conftest", path.stem), path)
            self.assertTrue((path.parent / "__init__.py").is_file(), path)

    def test_signs_and_sizes(self):
        for path in files():
            lines = path.read_bytes().decode("ascii").split("\n")
            self.assertLessEqual(len(lines), 401, path)
            for number, line in enumerate(lines, 1):
                if len(line) > 120 or re.search(r"[^ -~]", line):
                    self.refuse("L10, L14", path, number, line)
                if WORDS.search(line):
                    self.refuse("L17", path, number, line)

    def test_functions_are_short_and_plain(self):
        for path, tree in self.trees:
            for node in ast.walk(tree):
                if isinstance(node, ast.FunctionDef):
                    if node.end_lineno - node.lineno + 1 > 40:
                        self.refuse("L10", path, node, "more than 40 lines")
                    given = node.args
                    if node.decorator_list or given.vararg or given.kwarg or given.kwonlyargs or given.posonlyargs:
                        self.refuse("L4", path, node, "no plain function")

    def test_kinds_of_nodes(self):
        for path, tree in self.trees:
            for node in ast.walk(tree):
                if node.__class__.__name__ not in NODES:
                    self.refuse("L6, L7", path, node, node.__class__.__name__)
                if isinstance(node, ast.Constant) and isinstance(node.value, (float, bytes, complex)):
                    self.refuse("L7", path, node, node.value)
                if isinstance(node, ast.Assign) and (len(node.targets) != 1 or isinstance(node.targets[0], ast.Tuple)):
                    self.refuse("L6", path, node, "several targets")
                if isinstance(node, (ast.For, ast.While)) and node.orelse:
                    self.refuse("L6", path, node, "else behind a loop")
                if isinstance(node, ast.Try) and node.finalbody:
                    self.refuse("L6", path, node, "finally")
                if isinstance(node, ast.Expr) and not isinstance(node.value, ast.Call) and node is not tree.body[0]:
                    self.refuse("L6", path, node, "a value by itself")

    def test_imports(self):
        for path, tree in self.trees:
            for node in ast.walk(tree):
                if isinstance(node, ast.ImportFrom):
                    if node not in tree.body or node.level or not (node.module or "").startswith("trueleaf."):
                        self.refuse("L2, L16", path, node, node.module)

    def test_imports_come_from_the_file_that_defines_the_name(self):
        trees = {path.stem: tree for path, tree in self.trees}
        drawn = {}
        for path, tree in self.trees:
            rows = [node for node in tree.body if isinstance(node, ast.ImportFrom)]
            drawn[path.stem] = {node.module.split(".")[1] for node in rows}
            for node in rows:
                top = trees[node.module.split(".")[1]].body
                defined = {one.name for one in top if isinstance(one, (ast.FunctionDef, ast.ClassDef))}
                defined |= {one.targets[0].id for one in top if isinstance(one, ast.Assign)}
                for one in node.names:
                    if one.name not in defined or one.asname:
                        self.refuse("L16", path, node, one.name)
        for each in drawn:
            for name in list(drawn):
                drawn[name] = drawn[name].union(*[drawn[other] for other in drawn[name]])
        self.assertEqual([name for name in drawn if name in drawn[name]], [], "L16: files that draw from one another")

    def test_locals_are_not_called_like_imports_or_classes(self):
        for path, tree in self.trees:
            tops = [one.name for node in tree.body if isinstance(node, ast.ImportFrom) for one in node.names]
            tops += [node.name for node in tree.body if isinstance(node, (ast.ClassDef, ast.FunctionDef))]
            for function in ast.walk(tree):
                if isinstance(function, ast.FunctionDef):
                    for node, name in bound_names(function):
                        if node is not function and name in tops:
                            self.refuse("L15", path, node, name)

    def test_walked_at_once(self):
        for path, tree in self.trees:
            on_the_spot = list(walked_on_the_spot(tree))
            for node in ast.walk(tree):
                if called_name(node) in WALKED and node not in on_the_spot:
                    self.refuse("L23", path, node, ast.unparse(node))

    def test_names_that_are_not_used(self):
        for path, tree in self.trees:
            for node in ast.walk(tree):
                name = getattr(node, "id", None) or getattr(node, "attr", None)
                if name in NOT_USED:
                    self.refuse("L17, L27", path, node, name)
            for node, name in bound_names(tree):
                if name in NOT_USED:
                    self.refuse("L17", path, node, name)

    def test_no_annotations(self):
        for path, tree in self.trees:
            for node in ast.walk(tree):
                if getattr(node, "annotation", None) or getattr(node, "returns", None):
                    self.refuse("L21", path, node, "an annotation")

    def test_exponents_are_written_out(self):
        for path, tree in self.trees:
            for node in ast.walk(tree):
                if isinstance(node, ast.BinOp) and isinstance(node.op, ast.Pow):
                    right = node.right.value if isinstance(node.right, ast.Constant) else -1
                    if not 0 <= right <= 64:
                        self.refuse("L27", path, node, ast.unparse(node))

    def test_tops_of_files(self):
        allowed = (ast.ImportFrom, ast.FunctionDef, ast.ClassDef, ast.Assign)
        for path, tree in self.trees:
            for node in tree.body:
                if not isinstance(node, allowed) and not (is_docstring(node) and node is tree.body[0]):
                    self.refuse("L3", path, node, ast.unparse(node))

    def test_classes(self):
        for path, tree in self.trees:
            for node in ast.walk(tree):
                if isinstance(node, ast.ClassDef):
                    plain = [one for one in node.body if isinstance(one, (ast.FunctionDef, ast.Pass))]
                    if plain != node.body or len(node.bases) > 1 or node.keywords or node.decorator_list:
                        self.refuse("L5", path, node, node.name)

    def test_names(self):
        for path, tree in self.trees:
            bound = {name for node, name in bound_names(tree)}
            for node, name in bound_names(tree):
                if name not in SPECIAL and not re.match(r"[A-Za-z][A-Za-z0-9_]*$", name):
                    self.refuse("L12", path, node, name)
            methods = [one for group in ast.walk(tree) if isinstance(group, ast.ClassDef) for one in group.body]
            for node, name in bound_names(tree):
                if name in dir(builtins) and node not in methods:
                    self.refuse("L15", path, node, name)
            for node in ast.walk(tree):
                if isinstance(node, ast.Name) and node.id not in bound | OWN_NAMES:
                    self.refuse("L8", path, node, node.id)

    def test_each_name_once_at_the_top(self):
        for path, tree in self.trees:
            tops = [node for node in tree.body if isinstance(node, (ast.FunctionDef, ast.ClassDef))]
            names = [node.name for node in tops]
            names += [node.targets[0].id for node in tree.body if isinstance(node, ast.Assign)]
            names += [one.name for node in tree.body if isinstance(node, ast.ImportFrom) for one in node.names]
            self.assertEqual(len(names), len(set(names)), path)

    def test_methods(self):
        own = {node.name for path, tree in self.trees for group in ast.walk(tree)
               if isinstance(group, ast.ClassDef) for node in group.body if isinstance(node, ast.FunctionDef)}
        for path, tree in self.trees:
            for node in ast.walk(tree):
                if isinstance(node, ast.Call) and isinstance(node.func, ast.Attribute):
                    if node.func.attr not in METHODS | own:
                        self.refuse("L25", path, node, node.func.attr)

    def test_names_of_methods_and_of_values(self):
        given = set()
        methods = set()
        for path, tree in self.trees:
            for node in ast.walk(tree):
                if isinstance(node, ast.Attribute) and isinstance(node.ctx, ast.Store):
                    given.add(node.attr)
                if isinstance(node, ast.ClassDef):
                    names = [one.name for one in node.body if isinstance(one, ast.FunctionDef)]
                    self.assertEqual(len(names), len(set(names)), f"L18 {path.name}: {node.name}")
                    methods.update(names)
        self.assertEqual(given & methods, set(), "L18: a method of one class and a value of another")
        taken = {name for kind in (str, int, list, dict, set, bytes, ValueError) for name in dir(kind)}
        self.assertEqual((given | methods - set(SPECIAL)) & taken, set(), "L26: a name that Python's own values have")

    def test_is_stands_beside_none_true_false(self):
        for path, tree in self.trees:
            for node in ast.walk(tree):
                if isinstance(node, ast.Compare) and any(isinstance(op, (ast.Is, ast.IsNot)) for op in node.ops):
                    sides = [node.left] + node.comparators
                    if not any(ast.unparse(one) in ("None", "True", "False") for one in sides):
                        self.refuse("L20", path, node, ast.unparse(node))

    def test_fstrings_hold_plain_names(self):
        for path, tree in self.trees:
            for node in ast.walk(tree):
                if isinstance(node, ast.FormattedValue):
                    plain = isinstance(node.value, ast.Name) and node.conversion in (-1, ord("r"))
                    if not plain or node.format_spec:
                        self.refuse("L7", path, node, ast.unparse(node))

    def test_texts(self):
        for path, tree in self.trees:
            for node in ast.walk(tree):
                if isinstance(node, ast.Constant) and isinstance(node.value, str) and "%" in node.value:
                    self.refuse("L27", path, node, "a percent sign in a text")


if __name__ == "__main__":
    unittest.main()
