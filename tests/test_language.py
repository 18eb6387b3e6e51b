"""The package keeps to LANGUAGE.md: the rules that can be seen in a file's tree and signs."""

import ast
import builtins
import pathlib
import re
import unittest

import vesselhall

FOLDER = pathlib.Path(vesselhall.__file__).resolve().parent

OWN_NAMES = set("""
    len range enumerate zip min max sum abs sorted reversed int str bool list tuple dict set frozenset isinstance
    ord repr any all divmod Exception ValueError TypeError KeyError IndexError LookupError ZeroDivisionError
    ArithmeticError OverflowError RuntimeError NotImplementedError AttributeError StopIteration
""".split())

OWN_METHODS = set("""
    append clear copy count endswith extend find get index insert isalnum isalpha isdigit islower isspace isupper
    items join keys ljust lower lstrip partition pop remove replace reverse rfind rjust rpartition rsplit rstrip
    setdefault split splitlines startswith strip update upper values zfill bit_length
""".split())

DOUBLE_UNDERSCORES = set("__init__ __eq__ __repr__ __str__ __len__ __all__ __version__ __name__".split())

BANNED_WORDS = re.compile(
    r"\b(type|typing|typing_extensions|enum|Enum|IntEnum|StrEnum|Flag|IntFlag|Generic|Protocol|ABC|ABCMeta"
    r"|namedtuple|NamedTuple|TypedDict|TYPE_CHECKING|abstractmethod)\b|dataclass|overload|contextmanager"
)

# L17: nowhere at all, and not as names.
BANNED_NAMES = set("register mro elements open input version_info with_traceback add_note".split())
BANNED_AS_NAMES = BANNED_NAMES | set("""
    attrgetter breakpoint builtins compile copyright credits delattr dir eval exec exit gc getattr globals hasattr
    help id importlib license locals methodcaller os quit setattr super type vars sys __name__
""".split())

# L26: what a value of an object may be called though Python's own texts and lists have it.
VALUES_LIKE_METHODS = set("count index title find get join lower upper split strip copy add".split())

KEYWORDS = {
    "sorted": {"key", "reverse"}, "min": {"key", "default"}, "max": {"key", "default"}, "sum": {"start"},
    "enumerate": {"start"}, "zip": {"strict"},
}

BANNED_NODES = (
    ast.AsyncFor, ast.AsyncFunctionDef, ast.AsyncWith, ast.Assert, ast.Await, ast.Delete, ast.DictComp,
    ast.GeneratorExp, ast.Global, ast.Import, ast.Match, ast.NamedExpr, ast.Nonlocal, ast.SetComp, ast.Starred,
    ast.With, ast.Yield, ast.YieldFrom, ast.Div, ast.MatMult,
)


def files():
    return [path for path in sorted(FOLDER.rglob("*")) if "__pycache__" not in path.parts]


def modules():
    return [(path, path.read_text(encoding="utf-8")) for path in files() if path.name != "__main__.py"]


def nodes():
    for path, text in modules():
        for node in ast.walk(ast.parse(text)):
            yield path, node


def methods():
    return {part.name for path, node in nodes() if isinstance(node, ast.ClassDef)
            for part in node.body if isinstance(part, ast.FunctionDef)}


def values():
    return {node.attr for path, node in nodes() if isinstance(node, ast.Attribute) and isinstance(node.ctx, ast.Store)}


def imports_of(tree):
    """The modules of the package that a file draws from, and for each the names."""
    return [(node.module, name.asname or name.name) for node in tree.body if isinstance(node, ast.ImportFrom)
            for name in node.names if node.module != "__future__"]


def defined_in(tree):
    names = [node.name for node in tree.body if isinstance(node, (ast.FunctionDef, ast.ClassDef))]
    for node in tree.body:
        if isinstance(node, ast.Assign):
            names.extend([target.id for target in node.targets if isinstance(target, ast.Name)])
    return names


def bound_in(function):
    """The parameters and locals of a function."""
    for node in ast.walk(function):
        if isinstance(node, ast.arg):
            yield node.arg
        elif isinstance(node, ast.Name) and isinstance(node.ctx, ast.Store):
            yield node.id


def may_hold_a_set(parent):
    if isinstance(parent, ast.Call):
        return isinstance(parent.func, ast.Name) and parent.func.id in ("sorted", "len") and not parent.keywords
    if isinstance(parent, ast.BinOp):
        return isinstance(parent.op, (ast.Sub, ast.BitAnd, ast.BitOr, ast.BitXor))
    return isinstance(parent, ast.Compare)


class Signs(unittest.TestCase):
    def test_files_have_plain_names(self):
        for path in files():
            self.assertRegex(path.name, r"^([a-z][a-z0-9_]*|__init__|__main__)\.py$")
            self.assertNotIn(path.stem, dir(builtins))

    def test_lines_and_signs(self):
        for path, text in modules():
            lines = text.splitlines()
            self.assertLessEqual(len(lines), 400, path)
            for number, line in enumerate(lines, start=1):
                with self.subTest(file=path.name, line=number):
                    self.assertLessEqual(len(line), 120)
                    self.assertRegex(line, r"^[ -~]*$")
                    self.assertIsNone(BANNED_WORDS.search(line))


class Trees(unittest.TestCase):
    def each(self, *kinds):
        for path, node in nodes():
            if isinstance(node, kinds):
                yield node, f"{path.name}, line {getattr(node, 'lineno', '?')}"

    def test_no_banned_node(self):
        for node, where in self.each(*BANNED_NODES):
            self.fail(where)

    def test_imports_are_of_the_package_by_full_names(self):
        for node, where in self.each(ast.ImportFrom):
            self.assertEqual(node.level, 0, where)
            self.assertEqual([name.asname for name in node.names if name.name == "*"], [], where)
            if node.module != "__future__":
                self.assertTrue(node.module.startswith("vesselhall."), where)

    def test_functions_are_short_and_plain(self):
        for node, where in self.each(ast.FunctionDef):
            self.assertLessEqual(node.end_lineno - node.lineno + 1, 40, where)
            self.assertEqual(node.decorator_list, [], where)
            self.assertIsNone(node.args.vararg, where)
            self.assertIsNone(node.args.kwarg, where)
            self.assertEqual(node.args.kwonlyargs + node.args.posonlyargs, [], where)

    def test_classes_are_plain(self):
        for node, where in self.each(ast.ClassDef):
            self.assertEqual(node.decorator_list, [], where)
            self.assertLessEqual(len(node.bases), 1, where)
            self.assertEqual([part for part in node.body if isinstance(part, (ast.Assign, ast.AnnAssign))], [], where)

    def test_names_are_plain_and_of_the_known_ones(self):
        for node, where in self.each(ast.Name, ast.arg, ast.FunctionDef, ast.ClassDef):
            name = getattr(node, "id", None) or getattr(node, "arg", None) or node.name
            if name.startswith("_"):
                self.assertIn(name, DOUBLE_UNDERSCORES, where)
            elif isinstance(node, ast.Name) and name in dir(builtins):
                self.assertIn(name, OWN_NAMES, where)
                self.assertIsInstance(node.ctx, ast.Load, where)

    def test_attributes_are_of_the_known_ones(self):
        known = OWN_METHODS | methods() | values() | {"__init__"}
        for node, where in self.each(ast.Attribute):
            self.assertIn(node.attr, known, where)

    def test_methods_and_values_of_classes(self):
        self.assertEqual(methods() & values(), set())
        pythons_own = set()
        for kind in (str, bytes, int, list, tuple, dict, set):
            pythons_own.update(dir(kind))
        self.assertLessEqual(methods() & pythons_own, OWN_METHODS | {"add", "discard"} | DOUBLE_UNDERSCORES)
        self.assertLessEqual(values() & pythons_own, VALUES_LIKE_METHODS)
        for node, where in self.each(ast.FunctionDef):
            if node.name == "__init__":
                returns = [part for part in ast.walk(node) if isinstance(part, ast.Return) and part.value is not None]
                self.assertEqual(returns, [], where)

    def test_loops_and_assignments(self):
        for node, where in self.each(ast.For, ast.While):
            self.assertEqual(node.orelse, [], where)
        for node, where in self.each(ast.Assign):
            self.assertEqual(len(node.targets), 1, where)
        for node, where in self.each(ast.Try):
            self.assertEqual(node.finalbody, [], where)
        for node, where in self.each(ast.ListComp):
            self.assertEqual(len(node.generators), 1, where)
            self.assertLessEqual(len(node.generators[0].ifs), 1, where)

    def test_values(self):
        for node, where in self.each(ast.Constant):
            self.assertNotIsInstance(node.value, (float, complex, bytes), where)
            self.assertNotIn("%", node.value if isinstance(node.value, str) else "", where)
        for node, where in self.each(ast.Compare):
            for sign, side in zip(node.ops, node.comparators):
                if isinstance(sign, (ast.Is, ast.IsNot)):
                    self.assertIsInstance(side, ast.Constant, where)
        for node, where in self.each(ast.BinOp):
            if isinstance(node.op, ast.Pow):
                self.assertIsInstance(node.right, ast.Constant, where)
                self.assertIn(node.right.value, range(65), where)
        for node, where in self.each(ast.FormattedValue):
            self.assertIsInstance(node.value, ast.Name, where)
            self.assertIsNone(node.format_spec, where)

    def test_calls_of_pythons_own_have_their_own_keywords_alone(self):
        for node, where in self.each(ast.Call):
            if isinstance(node.func, ast.Name) and node.func.id in OWN_NAMES:
                used = {keyword.arg for keyword in node.keywords}
                self.assertLessEqual(used, KEYWORDS.get(node.func.id, set()), where)

    def test_names_that_are_not_used(self):
        for node, where in self.each(ast.Name, ast.arg, ast.Attribute, ast.FunctionDef, ast.ClassDef):
            if isinstance(node, ast.Attribute):
                self.assertNotIn(node.attr, BANNED_NAMES, where)
            else:
                name = getattr(node, "id", None) or getattr(node, "arg", None) or node.name
                self.assertNotIn(name, BANNED_AS_NAMES, where)

    def test_sets_are_not_kept(self):
        for parent, where in self.each(ast.AST):
            for node in ast.iter_child_nodes(parent):
                if isinstance(node, ast.Call) and getattr(node.func, "id", None) in ("set", "frozenset"):
                    self.assertTrue(may_hold_a_set(parent), where)


class Files(unittest.TestCase):
    def trees(self):
        return {"vesselhall." + path.stem: ast.parse(text) for path, text in modules() if path.stem != "__init__"}

    def test_names_are_drawn_from_the_file_that_defines_them(self):
        trees = self.trees()
        for name, tree in trees.items():
            for module, drawn in imports_of(tree):
                self.assertIn(drawn, defined_in(trees[module]), name)

    def test_no_two_files_draw_from_one_another(self):
        left = {name: {module for module, drawn in imports_of(tree)} for name, tree in self.trees().items()}
        while left:
            ready = [name for name, drawn in left.items() if not drawn & set(left)]
            self.assertNotEqual(ready, [], f"a ring is among {sorted(left)}")
            left = {name: drawn for name, drawn in left.items() if name not in ready}

    def test_each_name_is_bound_once_at_the_top(self):
        for name, tree in self.trees().items():
            bound = defined_in(tree) + [drawn for module, drawn in imports_of(tree)]
            self.assertEqual(len(bound), len(set(bound)), name)

    def test_locals_are_not_called_like_what_stands_above_them(self):
        for name, tree in self.trees().items():
            taken = {drawn for module, drawn in imports_of(tree)} | set(dir(builtins))
            taken |= {node.name for node in tree.body if isinstance(node, ast.ClassDef)}
            for node in ast.walk(tree):
                if isinstance(node, (ast.FunctionDef, ast.Lambda)):
                    for local in bound_in(node):
                        self.assertNotIn(local, taken, f"{name}, line {node.lineno}")


if __name__ == "__main__":
    unittest.main()
