"""The rules of the language that can be seen in the text of the package."""

import ast
import builtins
import os
import re
import unittest

ROOT = os.path.join(os.path.dirname(os.path.dirname(os.path.abspath(__file__))), "toldorfree")
LIBRARY = {"heapq": {"heappush", "heappop", "heapify", "heapreplace", "heappushpop"},
           "math": {"gcd", "lcm", "isqrt", "comb", "perm", "factorial"}, "collections": {"defaultdict"}}
BUILTINS = set("""len range enumerate zip min max sum abs sorted reversed int str bool bytes list tuple dict set frozenset
    isinstance ord repr any all divmod pow map iter next property staticmethod classmethod super
    Exception ValueError TypeError KeyError IndexError LookupError ZeroDivisionError ArithmeticError OverflowError
    RuntimeError NotImplementedError AttributeError StopIteration NotImplemented getattr hasattr setattr""".split())
METHODS = set("""append clear copy count endswith extend find get index insert isalnum isalpha isdigit islower isspace
    isupper items join keys ljust lower lstrip partition pop remove replace reverse rfind rjust rpartition rsplit rstrip
    setdefault split splitlines startswith strip update upper values zfill bit_length""".split())
BARRED = set("""register mro elements open input law version_info with_traceback add_note""".split())
WORDS = ("typing", "typing_extensions", "enum", "Enum", "Flag", "Generic", "Protocol", "ABC", "namedtuple", "type",
         "NamedTuple", "TypedDict", "abstractmethod", "_wall", "_WallAttr")
NODES = (ast.Module, ast.ImportFrom, ast.alias, ast.FunctionDef, ast.ClassDef, ast.arguments, ast.arg, ast.Return,
         ast.Assign, ast.AugAssign, ast.For, ast.While, ast.If, ast.Raise, ast.Expr, ast.Pass, ast.Break, ast.Continue,
         ast.Call, ast.keyword, ast.Name, ast.Attribute, ast.Subscript, ast.Slice, ast.Constant, ast.JoinedStr,
         ast.FormattedValue, ast.List, ast.Tuple, ast.Dict, ast.ListComp, ast.DictComp, ast.comprehension, ast.BinOp,
         ast.UnaryOp, ast.BoolOp, ast.Compare, ast.IfExp, ast.operator, ast.unaryop, ast.boolop, ast.cmpop,
         ast.expr_context, ast.Yield, ast.YieldFrom, ast.Starred, ast.With, ast.withitem)


def sources():
    found = {}
    for name in sorted(os.listdir(ROOT)):
        if name != "__pycache__":
            with open(os.path.join(ROOT, name), encoding="utf-8") as file:
                found[name] = file.read()
    return found


def names_of(tree):
    """Every name that the code binds, with its line."""
    for node in ast.walk(tree):
        if isinstance(node, ast.Name) and isinstance(node.ctx, ast.Store):
            yield node.id, node.lineno
        elif isinstance(node, ast.arg):
            yield node.arg, node.lineno
        elif isinstance(node, (ast.FunctionDef, ast.ClassDef)):
            yield node.name, node.lineno


class LanguageTest(unittest.TestCase):
    def each(self):
        return [(name, text, ast.parse(text)) for name, text in sources().items()]

    def test_files(self):
        for name, text, _ in self.each():
            self.assertRegex(name, r"\A[a-z_]+\.py\Z")
            self.assertLessEqual(len(text.splitlines()), 399)
            self.assertTrue(text.isascii() and "\t" not in text and "\r" not in text)
            for line in text.splitlines():
                self.assertLessEqual(len(line), 120, line)

    def test_functions(self):
        for _, _, tree in self.each():
            for node in ast.walk(tree):
                if isinstance(node, ast.FunctionDef):
                    self.assertLessEqual(node.end_lineno - node.lineno + 1, 40, node.name)

    def test_kinds_of_code(self):
        for _, _, tree in self.each():
            for node in ast.walk(tree):
                self.assertIsInstance(node, NODES, getattr(node, "lineno", 0))
                self.assertNotIsInstance(node, (ast.Div, ast.MatMult, ast.Pow), "operator")
                if isinstance(node, ast.Constant):
                    self.assertNotIsInstance(node.value, (float, complex))
                    self.assertFalse(isinstance(node.value, str) and "%" in node.value, node.value)
                if isinstance(node, ast.Compare) and isinstance(node.ops[0], (ast.Is, ast.IsNot)):
                    self.assertIn(getattr(node.comparators[0], "value", 0), (None, True, False))
                if isinstance(node, ast.For):
                    self.assertNotIsInstance(node.iter, ast.Set)

    def test_imports(self):
        files = set(sources())
        for name, _, tree in self.each():
            for node in ast.walk(tree):
                if isinstance(node, ast.ImportFrom):
                    taken = {alias.name for alias in node.names}
                    self.assertFalse(any(alias.asname for alias in node.names))
                    if node.module in LIBRARY:
                        self.assertLessEqual(taken, LIBRARY[node.module])
                        continue
                    self.assertEqual(node.level, 0)
                    package, module = node.module.split(".")
                    self.assertEqual(package, "toldorfree")
                    self.assertIn(module + ".py", files)
                    there = ast.parse(sources()[module + ".py"])
                    bound = {item.name for item in there.body if isinstance(item, (ast.FunctionDef, ast.ClassDef))}
                    bound |= {item.targets[0].id for item in there.body if isinstance(item, ast.Assign)}
                    self.assertLessEqual(taken, bound, name)

    def test_no_imports_in_a_ring(self):
        needs = {}
        for name, text in sources().items():
            needs[name[:-3]] = set(re.findall(r"^from toldorfree\.(\w+)", text, re.M))
        done = set()
        while len(done) < len(needs):
            ready = {name for name in needs if name not in done and needs[name] <= done}
            self.assertTrue(ready, "modules import from each other")
            done |= ready

    def test_every_import_is_used(self):
        for _, _, tree in self.each():
            taken = {alias.name for node in tree.body if isinstance(node, ast.ImportFrom) for alias in node.names}
            used = {node.id for node in ast.walk(tree) if isinstance(node, ast.Name)}
            self.assertLessEqual(taken, used)

    def test_names(self):
        for _, text, tree in self.each():
            taken = {alias.name for node in tree.body if isinstance(node, ast.ImportFrom) for alias in node.names}
            classes = {node.name for node in tree.body if isinstance(node, ast.ClassDef)}
            for name, line in names_of(tree):
                self.assertNotIn(name, BARRED, line)
                self.assertFalse(hasattr(builtins, name) and not name.startswith("__"), (name, line))
                self.assertNotIn(name, taken, line)
                self.assertTrue(not name.startswith("__") or name.endswith("__"), name)
            for node in ast.walk(tree):
                if isinstance(node, ast.FunctionDef):
                    bound = {name for name, _ in names_of(node)}
                    self.assertFalse(bound & classes, node.name)
                if isinstance(node, ast.Attribute):
                    self.assertNotIn(node.attr, BARRED)
            code = re.sub(r'""".*?"""|#[^\n]*', "", text, flags=re.S)
            for word in WORDS:
                self.assertIsNone(re.search(rf"\b{word}\b", code), word)
            self.assertIsNone(re.search(r"dataclass|overload|contextmanager|\(type\)|Meta|metaclass=", text))

    def test_builtins_and_methods(self):
        own = {name for text in sources().values() for name, _ in names_of(ast.parse(text))}
        for _, _, tree in self.each():
            for node in ast.walk(tree):
                if isinstance(node, ast.Name) and hasattr(builtins, node.id):
                    self.assertIn(node.id, BUILTINS, node.lineno)
                if isinstance(node, ast.Call) and isinstance(node.func, ast.Attribute):
                    self.assertTrue(node.func.attr in METHODS or node.func.attr in own or node.func.attr == "__init__",
                                    node.func.attr)

    def test_ranges_and_sets_are_used_on_the_spot(self):
        calls = ("len", "sorted", "list", "tuple", "sum", "min", "max", "any", "all", "enumerate", "zip", "dict")
        for _, _, tree in self.each():
            parents = {child: node for node in ast.walk(tree) for child in ast.iter_child_nodes(node)}
            for node in ast.walk(tree):
                if isinstance(node, ast.Call) and isinstance(node.func, ast.Name):
                    above = parents[node]
                    if node.func.id == "set":
                        self.assertTrue(isinstance(above, ast.Call) and above.func.id in ("len", "sorted"), node.lineno)
                    if node.func.id in ("zip", "enumerate", "reversed", "range"):
                        self.assertTrue(isinstance(above, (ast.For, ast.comprehension, ast.Compare))
                                        or isinstance(above, ast.Assign) and node.func.id == "range"
                                        or isinstance(above, ast.Call) and getattr(above.func, "id", "") in calls
                                        or node.func.id == "range" and getattr(above.func, "id", "") == "reversed",
                                        node.lineno)

    def test_modules_use_earlier_stages_alone(self):
        stages = [["checks", "errors", "lots", "tables", "texts", "naming", "fairness", "breaks"],
                  ["ranks", "circuits", "rebuilding", "matching", "groups", "sums", "gaps"],
                  ["spectra", "together", "duals", "farness"],
                  ["holding", "stacks", "pairing", "inner", "coarse"],
                  ["classes", "meeting", "foursomes", "evenly", "laid"],
                  ["partings", "putting", "transversals", "goings"],
                  ["cuts", "glue", "crossing", "pieces", "trees"],
                  ["reading", "rings", "symmetries", "inside", "ringglue"],
                  ["squares", "fourpoints", "opposite", "planes"],
                  ["secrets", "losses", "desks", "trials", "listings"]]
        stage_of = {name: number for number, names in enumerate(stages) for name in names + ["__init__"]}
        for name, text in sources().items():
            for module in re.findall(r"^from toldorfree\.(\w+)", text, re.M):
                self.assertLessEqual(stage_of[module], stage_of[name[:-3]], name)
