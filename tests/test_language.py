"""What a glance at the code can tell of the rules of LANGUAGE.md; each test names its rules."""

import ast
import builtins
import pathlib
import re
import unittest

PACKAGE = pathlib.Path(__file__).resolve().parent.parent / "sinceclocks"

LIBRARY = {
    "heapq": ["heappush", "heappop", "heapify", "heapreplace", "heappushpop"],
    "math": ["gcd", "lcm", "isqrt", "comb", "perm", "factorial"],
    "itertools": ["product", "combinations", "permutations", "chain", "accumulate", "pairwise", "islice",
                  "zip_longest"],
    "collections": ["defaultdict", "deque"],
}
BUILTINS = """len range enumerate zip min max sum abs sorted reversed int str bool list tuple dict set frozenset
    isinstance ord repr any all divmod pow iter next map Exception ValueError TypeError KeyError IndexError
    LookupError ZeroDivisionError ArithmeticError OverflowError RuntimeError NotImplementedError AttributeError
    StopIteration NotImplemented super getattr hasattr setattr property staticmethod classmethod object type""".split()
METHODS = """append clear copy count endswith extend find get index insert isalnum isalpha isdigit islower isspace
    isupper items join keys ljust lower lstrip partition pop remove replace reverse rfind rjust rpartition rsplit
    rstrip setdefault split splitlines startswith strip update upper values zfill bit_length add discard sort
    popleft appendleft __init__""".split()
BARRED_NAMES = """register mro elements open input law version_info with_traceback add_note attrgetter breakpoint
    builtins compile copyright credits delattr dir eval exec exit gc globals help id importlib license locals
    methodcaller os quit vars sys""".split()
BARRED_WORDS = """typing typing_extensions enum Enum IntEnum StrEnum Flag IntFlag Generic Protocol ABC ABCMeta
    namedtuple NamedTuple TypedDict TYPE_CHECKING abstractmethod""".split()
# doctest, in another file of tests, may have left a "_" among them
TAKEN = [name for name in vars(builtins) if name != "_"]
STATEMENTS = (ast.Assign, ast.AnnAssign, ast.AugAssign, ast.If, ast.While, ast.For, ast.Return, ast.Break, ast.Continue,
              ast.Pass, ast.Raise, ast.Assert, ast.Delete, ast.Nonlocal, ast.Match, ast.With, ast.Try, ast.Expr,
              ast.FunctionDef, ast.ClassDef, ast.ImportFrom)


class LanguageTest(unittest.TestCase):
    @classmethod
    def setUpClass(cls):
        cls.files = sorted(path for path in PACKAGE.rglob("*") if "__pycache__" not in path.parts)
        cls.texts = {path.stem: path.read_text(encoding="utf-8") for path in cls.files}
        cls.trees = {name: ast.parse(text) for name, text in cls.texts.items()}

    def nodes(self, kind):
        return [(name, node) for name, tree in self.trees.items() for node in ast.walk(tree) if isinstance(node, kind)]

    def test_files(self):
        """L1, L14: nothing but files of lower-case names, and an __init__.py."""
        self.assertIn("__init__", self.texts)
        for path in self.files:
            self.assertRegex(path.name, r"\A[a-z0-9_]+\.py\Z")

    def test_sizes_and_signs(self):
        """L10, L14: few and short lines, from the space to the tilde."""
        for name, text in self.texts.items():
            self.assertRegex(text, r"\A[\n -~]*\Z", name)
            lines = text.split("\n")
            self.assertLessEqual(len(lines), 399, name)
            self.assertLessEqual(max(len(line) for line in lines), 120, name)
        for name, node in self.nodes(ast.FunctionDef):
            self.assertLessEqual(node.end_lineno - node.lineno + 1, 40, (name, node.name))

    def test_imports(self):
        """L2, L16: each name from the file that defines it, by its full name."""
        for name, node in self.nodes(ast.ImportFrom):
            self.assertEqual(node.level, 0)
            self.assertIn(node, self.trees[name].body)
            for alias in node.names:
                self.assertIsNone(alias.asname)
                if node.module in LIBRARY:
                    self.assertIn(alias.name, LIBRARY[node.module])
                else:
                    self.assertRegex(node.module, r"\Asinceclocks\.[a-z0-9_]+\Z")
                    self.assertIn(alias.name, self.own_names(node.module.split(".")[1]), name)

    def own_names(self, name):
        found = []
        for node in self.trees[name].body:
            if isinstance(node, (ast.FunctionDef, ast.ClassDef)):
                found.append(node.name)
            elif isinstance(node, ast.Assign):
                found += [target.id for target in node.targets]
        return found

    def imported_names(self, name):
        return [alias.name for node in self.trees[name].body if isinstance(node, ast.ImportFrom) for alias in node.names]

    def test_no_circles(self):
        """L16: no two files import from each other."""
        needs = {name: [node.module.split(".")[1] for node in tree.body
                        if isinstance(node, ast.ImportFrom) and node.module not in LIBRARY]
                 for name, tree in self.trees.items()}
        while needs:
            free = [name for name in needs if not any(need in needs for need in needs[name])]
            self.assertTrue(free, needs)
            for name in free:
                del needs[name]

    def test_module_level(self):
        """L3, L15: docstring, imports, functions, classes, plain values, each name once."""
        for name, tree in self.trees.items():
            self.assertIsNotNone(ast.get_docstring(tree), name)
            for node in tree.body[1:]:
                self.assertIsInstance(node, (ast.ImportFrom, ast.FunctionDef, ast.ClassDef, ast.Assign), name)
                if isinstance(node, ast.Assign):
                    ast.literal_eval(node.value)
            bound = self.own_names(name) + self.imported_names(name)
            self.assertEqual(sorted(bound), sorted(set(bound)))

    def test_statements_and_expressions(self):
        """L4, L6, L7, L20: nothing that the language does not have."""
        for name, node in self.nodes(ast.stmt):
            self.assertIsInstance(node, STATEMENTS, (name, node.lineno))
        for name, node in self.nodes((ast.Div, ast.Await, ast.MatMult, ast.JoinedStr)):
            self.assertIsInstance(node, ast.JoinedStr, name)
        for name, node in self.nodes(ast.Constant):
            self.assertIsInstance(node.value, (int, str, bytes, type(None)), (name, node.lineno))
        for name, node in self.nodes(ast.Compare):
            for sign, right in zip(node.ops, node.comparators):
                if isinstance(sign, (ast.Is, ast.IsNot)):
                    self.assertIsInstance(right, ast.Constant, (name, node.lineno))

    def test_names(self):
        """L8, L12, L15, L17: only the builtins that may stand, and no new meaning for any of them."""
        for name, node in self.nodes(ast.Name):
            where = (name, node.lineno, node.id)
            if isinstance(node.ctx, ast.Load) and node.id in TAKEN:
                self.assertIn(node.id, BUILTINS, where)
        classes = {name: [node.name for node in tree.body if isinstance(node, ast.ClassDef)]
                   for name, tree in self.trees.items()}
        for name, bound in self.bound_names():
            self.assertNotIn(bound, TAKEN, (name, bound))
            self.assertNotIn(bound, BARRED_NAMES + classes[name] + self.imported_names(name), name)
            self.assertRegex(bound, r"\A(_|_?[A-Za-z][A-Za-z0-9_]*)\Z")
        for name, node in self.nodes((ast.FunctionDef, ast.ClassDef)):
            self.assertNotIn(node.name, TAKEN, (name, node.name))
            self.assertNotIn(node.name, BARRED_NAMES)

    def bound_names(self):
        """The parameters and the local variables."""
        found = [(name, node.arg) for name, node in self.nodes(ast.arg)]
        return found + [(name, node.id) for name, node in self.nodes(ast.Name) if isinstance(node.ctx, ast.Store)]

    def test_words(self):
        """L12, L17, L27: words and signs that do not stand in the code."""
        for name, text in self.texts.items():
            for word in BARRED_WORDS:
                self.assertIsNone(re.search(r"\b%s\b" % word, text), (name, word))
            self.assertNotIn("_wall", text)
        for name, node in self.nodes(ast.Constant):
            if isinstance(node.value, str):
                self.assertNotIn("%", node.value, (name, node.lineno))

    def test_methods_and_attributes(self):
        """L25, L26: methods of builtin values that may stand, and the package's own."""
        own = [node.name for _, node in self.nodes(ast.FunctionDef)]
        for name, node in self.nodes(ast.Call):
            if isinstance(node.func, ast.Attribute):
                self.assertIn(node.func.attr, METHODS + own, (name, node.lineno))

    def test_signs_of_objects(self):
        """L5, L28: double-underscore methods by their one form; what they do to the rest of the package."""
        allowed = {"__init__": None, "__len__": ["self"], "__iter__": ["self"], "__eq__": ["self", "other"],
                   "__ne__": ["self", "other"], "__contains__": ["self", "x"], "__getitem__": ["self", "at"]}
        for name, tree in self.trees.items():
            inside = [part for node in ast.walk(tree) if isinstance(node, ast.ClassDef) for part in node.body]
            for node in ast.walk(tree):
                if isinstance(node, ast.FunctionDef) and node.name.startswith("__"):
                    self.assertIn(node, inside, name)
                    self.assertIn(node.name, allowed, name)
                    self.check_sign(node, allowed[node.name], name)
        # beside __eq__, __len__ and iteration: lists in any and all, no sort in place, no products, no try around them
        for name, node in self.nodes((ast.GeneratorExp, ast.Try, ast.Yield, ast.YieldFrom)):
            self.fail((name, node.lineno))
        for name, node in self.nodes(ast.Attribute):
            self.assertNotIn(node.attr, ["sort", "keys"], (name, node.lineno))
        for name, node in self.nodes(ast.ImportFrom):
            self.assertNotIn(node.module, ["itertools", "heapq"], name)
        for name, node in self.nodes(ast.Name):
            self.assertNotIn(node.id, ["reversed", "next", "map"], (name, node.lineno))

    def check_sign(self, node, arguments, name):
        """The arguments, and that nothing is changed but by __init__."""
        self.assertEqual(node.decorator_list, [], name)
        if arguments is not None:
            self.assertEqual([each.arg for each in node.args.args], arguments, name)
            changes = (ast.Assign, ast.AugAssign, ast.AnnAssign, ast.Delete, ast.Lambda, ast.FunctionDef)
            for part in node.body:
                for inner in ast.walk(part):
                    self.assertNotIsInstance(inner, changes, (name, node.name))
        if node.name in ("__iter__", "__len__"):
            self.assertIsInstance(node.body[0], ast.Return)
            self.assertEqual(node.body[0].value.func.id, node.name.strip("_"))

    def test_methods_and_attributes_apart(self):
        """L18, L26: no name is a method and an attribute, nor an attribute that builtin values have as a method."""
        methods = [part.name for _, node in self.nodes(ast.ClassDef) for part in node.body
                   if isinstance(part, ast.FunctionDef)]
        attributes = [node.attr for _, node in self.nodes(ast.Attribute) if isinstance(node.ctx, ast.Store)]
        self.assertEqual(sorted(set(methods) & set(attributes)), [])
        barred = """items keys values pop update append clear extend insert remove reverse setdefault sort args encode
            decode hex fromhex format format_map mro""".split()
        self.assertEqual(sorted(set(attributes) & set(barred)), [])

    def test_sets(self):
        """L24: sets only behind in, beside == and !=, in sorted and len, or stored by an assignment."""
        for name, tree in self.trees.items():
            above = {child: node for node in ast.walk(tree) for child in ast.iter_child_nodes(node)}
            for node in ast.walk(tree):
                called = isinstance(node, ast.Call) and isinstance(node.func, ast.Name) and node.func.id == "set"
                if not (called or isinstance(node, (ast.Set, ast.SetComp))):
                    continue
                holder = above[node]
                while isinstance(holder, ast.BinOp):
                    holder = above[holder]
                if isinstance(holder, ast.Call):
                    self.assertIn(holder.func.id, ["sorted", "len"], (name, node.lineno))
                else:
                    self.assertIsInstance(holder, (ast.Compare, ast.Assign), (name, node.lineno))


if __name__ == "__main__":
    unittest.main()
