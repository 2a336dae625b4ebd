"""That the files of the package keep to the rules of LANGUAGE.md which a glance can miss."""

import ast
import builtins
import os
import unittest
import warnings

ROOT = os.path.join(os.path.dirname(os.path.dirname(os.path.abspath(__file__))), "roomlooks")

BUILTINS = """len range enumerate zip min max sum abs sorted reversed int str bool list tuple dict set isinstance
    ord repr any all divmod Exception ValueError TypeError KeyError IndexError LookupError ZeroDivisionError
    ArithmeticError OverflowError RuntimeError NotImplementedError NotImplemented True False None""".split()
METHODS = """append clear copy count endswith extend find get index insert isalnum isalpha isdigit islower isspace
    isupper items join keys ljust lower lstrip partition pop remove replace reverse rfind rjust rpartition rsplit
    rstrip setdefault split splitlines startswith strip update upper values zfill bit_length add discard""".split()
LIBRARY = {"math": ["gcd", "lcm", "isqrt", "comb", "perm", "factorial"], "heapq": ["heappush", "heappop"]}
WORDS = """type typing typing_extensions enum Enum IntEnum StrEnum Flag IntFlag Generic Protocol ABC ABCMeta
    namedtuple NamedTuple TypedDict TYPE_CHECKING abstractmethod""".split()
NEVER = "register mro elements open input law version_info with_traceback add_note".split()
STATEMENTS = (ast.Assign, ast.AugAssign, ast.If, ast.While, ast.For, ast.Return, ast.Break, ast.Continue, ast.Pass,
              ast.Raise, ast.Assert, ast.Delete, ast.Try, ast.Expr, ast.FunctionDef, ast.ClassDef, ast.ImportFrom)
SPECIAL = ["__init__", "__eq__"]


def sources():
    for name in sorted(os.listdir(ROOT)):
        if name != "__pycache__":
            with open(os.path.join(ROOT, name), encoding="utf-8") as file:
                yield name, file.read()


def parents_of(tree):
    return {child: node for node in ast.walk(tree) for child in ast.iter_child_nodes(node)}


def functions_of(tree):
    return [node for node in ast.walk(tree) if isinstance(node, ast.FunctionDef)]


def local_names(function):
    args = function.args.posonlyargs + function.args.args + function.args.kwonlyargs
    stored = [node.id for node in ast.walk(function) if isinstance(node, ast.Name) and isinstance(node.ctx, ast.Store)]
    return [arg.arg for arg in args] + stored


class LanguageTests(unittest.TestCase):
    def each(self):
        for name, text in sources():
            yield name, text, ast.parse(text)

    def test_files(self):
        for name, text in sources():
            self.assertTrue(name.endswith(".py") and name == name.lower())
            self.assertLessEqual(len(text.split("\n")), 399, name)
            for line in text.split("\n"):
                self.assertLessEqual(len(line), 120, name)
            self.assertTrue(all([sign == "\n" or " " <= sign <= "~" for sign in text]), name)
            for word in ["_wall", "_WallAttr"]:
                self.assertNotIn(word, text)

    def test_no_warnings(self):
        for name, text in sources():
            with warnings.catch_warnings():
                warnings.simplefilter("error")
                compile(text, name, "exec")

    def test_functions(self):
        for name, _, tree in self.each():
            for function in functions_of(tree):
                self.assertLessEqual(function.end_lineno - function.lineno + 1, 40, (name, function.name))
                self.assertEqual(function.decorator_list, [])
                if function.name.startswith("__"):
                    self.assertIn(function.name, SPECIAL)

    def test_statements(self):
        for name, _, tree in self.each():
            for node in ast.walk(tree):
                if isinstance(node, ast.stmt):
                    self.assertIsInstance(node, STATEMENTS, name)
                self.assertNotIsInstance(node, (ast.GeneratorExp, ast.Yield, ast.YieldFrom, ast.Div), name)
            for node in tree.body:
                self.assertIsInstance(node, (ast.Expr, ast.ImportFrom, ast.FunctionDef, ast.ClassDef, ast.Assign), name)

    def test_stars(self):
        # A star stands only in a call, alone and before a name.
        for name, _, tree in self.each():
            above = parents_of(tree)
            for node in ast.walk(tree):
                if isinstance(node, ast.Starred):
                    self.assertIsInstance(above[node], ast.Call, (name, node.lineno))
                    self.assertIsInstance(node.value, ast.Name, (name, node.lineno))
                    self.assertEqual((above[node].args, above[node].keywords), ([node], []))

    def test_imports(self):
        for name, _, tree in self.each():
            used = set([node.id for node in ast.walk(tree) if isinstance(node, ast.Name)])
            for node in ast.walk(tree):
                if isinstance(node, ast.ImportFrom):
                    self.assertEqual(node.level, 0)
                    own = node.module.startswith("roomlooks.")
                    for alias in node.names:
                        self.assertIsNone(alias.asname)
                        self.assertIn(alias.name, used, name)
                        self.assertTrue(own or alias.name in LIBRARY[node.module])
                        if own:
                            self.check_definer(node.module, alias.name)

    def check_definer(self, module, wanted):
        with open(os.path.join(ROOT, module.split(".")[1] + ".py"), encoding="utf-8") as file:
            tree = ast.parse(file.read())
        names = [node.name for node in tree.body if isinstance(node, (ast.FunctionDef, ast.ClassDef))]
        names += [target.id for node in tree.body if isinstance(node, ast.Assign) for target in node.targets]
        self.assertIn(wanted, names, module)

    def test_no_two_files_import_from_each_other(self):
        table = {}
        for name, _, tree in self.each():
            modules = [node.module for node in ast.walk(tree) if isinstance(node, ast.ImportFrom)]
            table["roomlooks." + name[:-3]] = [module for module in modules if module.startswith("roomlooks.")]
        while table:
            free = [module for module in table if not any([other in table for other in table[module]])]
            self.assertTrue(free, table)
            table = {module: table[module] for module in table if module not in free}

    def test_names(self):
        hidden = [word for word in dir(builtins)]
        for name, _, tree in self.each():
            imports = [a.name for n in ast.walk(tree) if isinstance(n, ast.ImportFrom) for a in n.names]
            classes = [node.name for node in tree.body if isinstance(node, ast.ClassDef)]
            functions = [node.name for node in tree.body if isinstance(node, ast.FunctionDef)]
            top = [t.id for n in tree.body if isinstance(n, ast.Assign) for t in n.targets]
            bound = imports + classes + functions + top
            self.assertEqual(len(bound), len(set(bound)), name)
            for word in bound:
                self.assertNotIn(word, hidden, name)
            for function in functions_of(tree):
                for word in local_names(function):
                    self.assertNotIn(word, bound + hidden + NEVER, (name, function.name))
                self.assertNotIn(function.name, NEVER)

    def test_builtins_and_methods(self):
        for name, _, tree in self.each():
            bound = [a.name for n in ast.walk(tree) if isinstance(n, ast.ImportFrom) for a in n.names]
            bound += [n.name for n in ast.walk(tree) if isinstance(n, (ast.FunctionDef, ast.ClassDef))]
            bound += [word for function in functions_of(tree) for word in local_names(function)]
            bound += [n.id for n in ast.walk(tree) if isinstance(n, ast.Name) and isinstance(n.ctx, ast.Store)]
            bound += [arg.arg for n in ast.walk(tree) if isinstance(n, ast.Lambda) for arg in n.args.args]
            for node in ast.walk(tree):
                if isinstance(node, ast.Name) and node.id not in bound:
                    self.assertIn(node.id, BUILTINS, (name, node.lineno))

    def test_methods_that_are_called(self):
        own = []
        for _, _, tree in self.each():
            own += [f.name for n in ast.walk(tree) if isinstance(n, ast.ClassDef) for f in n.body
                    if isinstance(f, ast.FunctionDef)]
        for name, _, tree in self.each():
            for node in ast.walk(tree):
                if isinstance(node, ast.Call) and isinstance(node.func, ast.Attribute):
                    self.assertIn(node.func.attr, METHODS + own, (name, node.lineno))

    def test_signs(self):
        for name, _, tree in self.each():
            for node in ast.walk(tree):
                if isinstance(node, ast.Compare):
                    for sign, right in zip(node.ops, node.comparators):
                        if isinstance(sign, (ast.Is, ast.IsNot)):
                            self.assertIsInstance(right, ast.Constant, (name, node.lineno))
                if isinstance(node, ast.BinOp) and isinstance(node.op, ast.Pow):
                    self.assertIsInstance(node.right, ast.Constant, (name, node.lineno))
                if isinstance(node, ast.Constant):
                    self.check_constant(name, node)

    def check_constant(self, name, node):
        self.assertNotIsInstance(node.value, (float, complex), name)
        if isinstance(node.value, str):
            self.assertNotIn("%", node.value, (name, node.lineno))

    def test_words(self):
        for name, _, tree in self.each():
            docs = [node.body[0].value for node in ast.walk(tree)
                    if isinstance(node, (ast.Module, ast.FunctionDef, ast.ClassDef)) and ast.get_docstring(node)]
            for node in ast.walk(tree):
                if isinstance(node, ast.Constant) and isinstance(node.value, str) and node not in docs:
                    for word in WORDS:
                        self.assertNotIn(word, node.value.split(), name)
                if isinstance(node, ast.Name):
                    self.assertNotIn(node.id, WORDS + NEVER, name)
                if isinstance(node, ast.Attribute):
                    self.assertNotIn(node.attr, WORDS + NEVER, name)

    def test_lazy_values_are_iterated_at_once(self):
        lazy = ["zip", "enumerate", "reversed"]
        takers = ["list", "tuple", "dict", "sorted", "sum", "any", "all", "enumerate", "zip"]
        for name, _, tree in self.each():
            above = parents_of(tree)
            for node in ast.walk(tree):
                called = isinstance(node, ast.Call) and isinstance(node.func, ast.Name) and node.func.id in lazy
                viewed = (isinstance(node, ast.Call) and isinstance(node.func, ast.Attribute)
                          and node.func.attr in ["items", "keys", "values"])
                if called or viewed:
                    parent = above[node]
                    looped = isinstance(parent, (ast.For, ast.comprehension)) and parent.iter == node
                    taken = (isinstance(parent, ast.Call) and isinstance(parent.func, ast.Name)
                             and parent.func.id in takers and parent.args[0] == node)
                    self.assertTrue(looped or taken, (name, node.lineno))

    def test_sets_are_not_kept(self):
        for name, _, tree in self.each():
            above = parents_of(tree)
            for node in ast.walk(tree):
                self.assertNotIsInstance(node, (ast.Set, ast.SetComp), name)
                if isinstance(node, ast.Call) and isinstance(node.func, ast.Name) and node.func.id == "set":
                    parent = above[node]
                    used = isinstance(parent, ast.Call) and isinstance(parent.func, ast.Name)
                    self.assertTrue(used and parent.func.id in ["len", "sorted"], (name, node.lineno))


if __name__ == "__main__":
    unittest.main()
