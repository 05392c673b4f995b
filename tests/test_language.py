"""That the package keeps to the subset of the language: the rules that a short test can see."""

import ast
import builtins
import re
import unittest
from pathlib import Path

FOLDER = Path(__file__).resolve().parent.parent / "neverbare"
FILES = sorted(path for path in FOLDER.iterdir() if path.name != "__pycache__")

BUILTINS = set("""len range enumerate zip min max sum abs sorted reversed int str bool bytes list tuple dict set
    isinstance ord repr any all divmod iter next map ValueError KeyError property staticmethod""".split())
METHODS = set("""append clear copy count endswith extend find get index insert isalnum isalpha isdigit islower isspace
    isupper items join keys ljust lower lstrip partition pop remove replace reverse rfind rjust rpartition rsplit
    rstrip setdefault split splitlines startswith strip update upper values zfill bit_length removeprefix
    removesuffix""".split())
LIBRARY = {"heapq": {"heappush", "heappop", "heapify", "heapreplace", "heappushpop"},
           "math": {"gcd", "lcm", "isqrt", "comb", "perm", "factorial"}}
NODES = (
    ast.Module, ast.Expr, ast.Constant, ast.ImportFrom, ast.alias, ast.FunctionDef, ast.arguments, ast.arg,
    ast.ClassDef, ast.Assign, ast.AugAssign, ast.If, ast.While, ast.For, ast.Return, ast.Break, ast.Continue, ast.Pass,
    ast.Raise, ast.Try, ast.ExceptHandler, ast.Name, ast.Attribute, ast.Subscript, ast.Slice, ast.Call, ast.BinOp,
    ast.UnaryOp, ast.BoolOp, ast.Compare, ast.IfExp, ast.List, ast.Tuple, ast.Dict, ast.ListComp, ast.DictComp,
    ast.SetComp, ast.GeneratorExp, ast.comprehension, ast.JoinedStr, ast.FormattedValue, ast.Starred, ast.Yield,
    ast.YieldFrom, ast.keyword, ast.expr_context, ast.operator, ast.unaryop, ast.boolop, ast.cmpop, ast.Lambda,
    ast.With, ast.withitem,
)
BANNED_WORDS = ("typing", "typing_extensions", "enum", "Enum", "Flag", "Generic", "Protocol", "ABC", "namedtuple",
                "NamedTuple", "dataclass", "overload", "contextmanager", "_wall", "_WallAttr")
BANNED_NAMES = set("""register mro elements open input law version_info with_traceback add_note attrgetter breakpoint
    compile delattr dir eval exec exit gc getattr globals hasattr help id importlib locals methodcaller os quit
    setattr super type vars sys""".split())
SPECIAL = {"__init__", "__eq__", "__len__", "__contains__", "__iter__", "__call__", "__enter__", "__exit__"}
TAKE_LISTS = ("any", "all", "min", "max", "sum", "sorted")


def trees():
    return [(path, ast.parse(path.read_text())) for path in FILES]


def called(node):
    return node.func.id if isinstance(node, ast.Call) and isinstance(node.func, ast.Name) else None


class TestLanguage(unittest.TestCase):
    def each(self, *kinds):
        for path, tree in trees():
            for node in ast.walk(tree):
                if not kinds or isinstance(node, kinds):
                    yield f"{path.name}:{getattr(node, 'lineno', 0)}", node

    def test_files(self):
        self.assertTrue(all(path.is_file() and path.suffix == ".py" for path in FILES))
        for path in FILES:
            text = path.read_text(encoding="ascii")
            rows = text.split("\n")
            self.assertLessEqual(len(rows), 399, path.name)
            self.assertLessEqual(max(len(row) for row in rows), 120, path.name)
            self.assertTrue(all(sign == "\n" or " " <= sign <= "~" for sign in text), path.name)
            for word in BANNED_WORDS:
                self.assertIsNone(re.search(rf"\b{word}", text.replace("enumerate", "")), path.name)

    def test_only_allowed_kinds_of_nodes(self):
        for where, node in self.each():
            self.assertIsInstance(node, NODES, where)

    def test_functions_have_at_most_40_rows(self):
        for where, node in self.each(ast.FunctionDef):
            self.assertLessEqual(node.end_lineno - node.lineno + 1, 40, where)
            for decorator in node.decorator_list:
                self.assertIn(ast.unparse(decorator), ("property", "staticmethod"), where)
            self.assertFalse(node.name.startswith("__") and node.name not in SPECIAL, where)

    def test_module_level(self):
        for path, tree in trees():
            for place, node in enumerate(tree.body):
                plain = isinstance(node, (ast.ImportFrom, ast.FunctionDef, ast.ClassDef, ast.Assign))
                self.assertTrue(plain or place == 0 and isinstance(node, ast.Expr), path.name)
                if isinstance(node, ast.Assign):
                    ast.literal_eval(node.value)

    def test_imports(self):
        defined = {
            path.stem: {node.name for node in tree.body if isinstance(node, (ast.FunctionDef, ast.ClassDef))}
            | {target.id for node in tree.body if isinstance(node, ast.Assign) for target in node.targets}
            for path, tree in trees()
        }
        needs = {path.stem: set() for path in FILES}
        for path, tree in trees():
            for node in ast.walk(tree):
                if not isinstance(node, ast.ImportFrom):
                    continue
                self.assertIn(node, tree.body)
                names = {alias.name for alias in node.names}
                self.assertTrue(all(alias.asname is None for alias in node.names))
                used = {one.id for one in ast.walk(tree) if isinstance(one, ast.Name)}
                self.assertLessEqual(names, used, path.name)
                if node.module in LIBRARY:
                    self.assertLessEqual(names, LIBRARY[node.module])
                    continue
                package, module = node.module.split(".")
                self.assertEqual(package, "neverbare")
                self.assertLessEqual(names, defined[module], path.name)
                needs[path.stem].add(module)
        while needs:
            free = [name for name, wanted in needs.items() if not wanted & set(needs)]
            self.assertTrue(free, needs)
            for name in free:
                del needs[name]

    def test_names(self):
        for path, tree in trees():
            bound = {node.name for node in tree.body if isinstance(node, (ast.FunctionDef, ast.ClassDef))}
            bound |= {alias.name for node in tree.body if isinstance(node, ast.ImportFrom) for alias in node.names}
            for node in ast.walk(tree):
                where = f"{path.name}:{getattr(node, 'lineno', 0)}"
                if isinstance(node, ast.Name):
                    if node.id in dir(builtins):
                        self.assertIn(node.id, BUILTINS, where)
                        self.assertIsInstance(node.ctx, ast.Load, where)
                    if isinstance(node.ctx, ast.Store):
                        self.assertNotIn(node.id, bound, where)
                if isinstance(node, ast.arg):
                    self.assertNotIn(node.arg, bound, where)
                    self.assertNotIn(node.arg, dir(builtins), where)
                name = (getattr(node, "id", None) or getattr(node, "arg", None) or getattr(node, "attr", None)
                        or getattr(node, "name", None))
                if isinstance(name, str):
                    self.assertNotIn(name, BANNED_NAMES, where)

    def test_attributes_are_assigned_or_known_methods(self):
        own = set()
        for _, node in self.each(ast.FunctionDef):
            own.add(node.name)
        for _, node in self.each(ast.Attribute):
            if isinstance(node.ctx, ast.Store):
                own.add(node.attr)
        for where, node in self.each(ast.Attribute):
            self.assertTrue(node.attr in own or node.attr in METHODS, f"{where} {node.attr}")

    def test_calls(self):
        for where, node in self.each(ast.Call):
            if called(node) in TAKE_LISTS:
                self.assertFalse(any(isinstance(part, ast.GeneratorExp) for part in node.args), where)
            self.assertFalse(any(isinstance(part, ast.Starred) for part in node.args), where)
            if isinstance(node.func, ast.Attribute) and node.func.attr == "join":
                self.assertIsInstance(node.func.value, ast.Constant, where)

    def test_operators_and_numbers(self):
        for where, node in self.each(ast.BinOp, ast.AugAssign):
            self.assertNotIsInstance(node.op, (ast.Div, ast.MatMult, ast.Pow), where)
        for where, node in self.each(ast.Constant):
            self.assertNotIsInstance(node.value, (float, complex, bytes), where)
            if isinstance(node.value, str):
                self.assertNotIn("%", node.value, where)
        for where, node in self.each(ast.Compare):
            for sign, other in zip(node.ops, node.comparators):
                if isinstance(sign, (ast.Is, ast.IsNot)):
                    self.assertIn(ast.unparse(other), ("None", "True", "False"), where)

    def test_sets_stand_only_in_sorted_and_len(self):
        for path, tree in trees():
            allowed = set()
            for node in ast.walk(tree):
                if called(node) in ("sorted", "len") and not node.keywords:
                    allowed |= {id(part) for part in node.args}
            for node in ast.walk(tree):
                if isinstance(node, (ast.Set, ast.SetComp)) or called(node) in ("set", "frozenset"):
                    self.assertIn(id(node), allowed, f"{path.name}:{node.lineno}")

    def test_views_and_ranges_are_iterated_at_once(self):
        takers = ("list", "tuple", "dict", "sorted", "sum", "any", "all", "enumerate", "zip")
        for path, tree in trees():
            allowed = set()
            for node in ast.walk(tree):
                if isinstance(node, (ast.For, ast.comprehension)):
                    allowed.add(id(node.iter))
                if called(node) in takers:
                    allowed |= {id(part) for part in node.args}
            for node in ast.walk(tree):
                view = isinstance(node, ast.Call) and isinstance(node.func, ast.Attribute) and node.func.attr in (
                    "items", "keys", "values")
                if view or called(node) in ("zip", "enumerate", "reversed", "range"):
                    self.assertIn(id(node), allowed, f"{path.name}:{node.lineno}")

    def test_generators_are_iterated_at_once(self):
        names = set()
        for _, node in self.each(ast.FunctionDef):
            if any(isinstance(part, (ast.Yield, ast.YieldFrom)) for part in ast.walk(node)):
                names.add(node.name)
        self.assertLessEqual({"all_whole_slips", "all_stands"}, names)
        for path, tree in trees():
            allowed = {id(node.iter) for node in ast.walk(tree) if isinstance(node, (ast.For, ast.comprehension))}
            calls = {id(node.func) for node in ast.walk(tree) if isinstance(node, ast.Call) and id(node) in allowed}
            for node in ast.walk(tree):
                if isinstance(node, ast.Name) and node.id in names:
                    self.assertIn(id(node), calls, f"{path.name}:{node.lineno}")

    def test_errors(self):
        own = {name for name in vars(__import__("neverbare.errors").errors) if name[0].isupper()}
        for where, node in self.each(ast.ExceptHandler):
            self.assertIn(ast.unparse(node.type), own, where)
        for where, node in self.each(ast.Raise):
            self.assertIn(called(node.exc), own, where)

    def test_operators_and_properties_change_nothing(self):
        """What they run is told here by name; none of it assigns to items or attributes, or appends."""
        run = {"is_cell", "is_sequence", "is_whole", "grown_cells", "shrunk_cells", "near_cells", "check_cells",
               "check_reach", "is_reach", "grown", "deep", "field", "length", "sides", "minus", "_lowest", "gcd",
               "depth", "leeway", "aim", "needed", "good_ends", "least_of", "greatest_of", "middle_of_two", "plus",
               "times", "negative", "compare", "__contains__", "__eq__", "__len__", "__iter__"}
        for where, node in self.each(ast.FunctionDef):
            if node.name in run:
                for part in ast.walk(node):
                    self.assertNotIsInstance(part, ast.AugAssign, where)
                    if isinstance(part, (ast.Attribute, ast.Subscript)):
                        self.assertIsInstance(part.ctx, ast.Load, where)
                    if isinstance(part, ast.Call) and isinstance(part.func, ast.Name):
                        self.assertTrue(part.func.id in run | BUILTINS or part.func.id.startswith("Bad"), where)
                    if isinstance(part, ast.Call) and isinstance(part.func, ast.Attribute):
                        self.fail(where)


if __name__ == "__main__":
    unittest.main()
