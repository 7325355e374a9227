"""The rules of the Python subset, as far as they can be seen file by file."""

import ast
import builtins
import os
import re
import unittest

FOLDER = os.path.join(os.path.dirname(os.path.dirname(os.path.abspath(__file__))), "alldrawn")
FILES = sorted(name for name in os.listdir(FOLDER) if name != "__pycache__")

BUILTINS = set("""len range enumerate zip min max sum abs sorted reversed int str bool bytes list tuple dict set
    frozenset isinstance ord repr any all divmod iter next map super property staticmethod classmethod Exception
    ValueError TypeError KeyError IndexError LookupError ZeroDivisionError ArithmeticError OverflowError
    RuntimeError NotImplementedError AttributeError StopIteration NotImplemented""".split())
METHODS = set("""append clear copy count endswith extend find get index insert isalnum isalpha isdigit islower isspace
    isupper items join keys ljust lower lstrip partition pop remove replace reverse rfind rjust rpartition rsplit rstrip
    setdefault split splitlines startswith strip update upper values zfill bit_length title capitalize swapcase casefold
    center expandtabs removeprefix removesuffix rindex isascii isdecimal isnumeric istitle isidentifier isprintable
    translate add discard""".split())
FREE_ATTRIBUTES = set("count index title find get join lower upper split strip copy add".split())
SPECIAL = set("""__init__ __eq__ __repr__ __str__ __len__ __enter__ __exit__ __call__ __iter__ __lt__ __le__ __gt__
    __ge__ __ne__ __add__ __sub__ __mul__ __floordiv__ __mod__ __pow__ __and__ __or__ __xor__ __lshift__ __rshift__
    __neg__ __pos__ __invert__ __abs__ __bool__ __contains__ __getitem__ __setitem__""".split())
OPERATOR_ARGUMENTS = {"__contains__": ["self", "x"], "__getitem__": ["self", "at"], "__invert__": ["self"],
                      "__eq__": ["self", "other"], "__add__": ["self", "other"], "__sub__": ["self", "other"],
                      "__len__": ["self"], "__iter__": ["self"]}
LIBRARY = {"heapq": {"heappush", "heappop", "heapify", "heapreplace", "heappushpop"},
           "math": {"gcd", "lcm", "isqrt", "comb", "perm", "factorial"},
           "itertools": {"product", "combinations", "permutations"}}
STATEMENTS = (ast.Assign, ast.AugAssign, ast.AnnAssign, ast.If, ast.While, ast.For, ast.Return, ast.Break, ast.Continue,
              ast.Pass, ast.Raise, ast.Assert, ast.Delete, ast.Nonlocal, ast.Match, ast.With, ast.Try, ast.Expr,
              ast.FunctionDef, ast.ClassDef, ast.ImportFrom)
BARRED_WORDS = set("""typing typing_extensions enum Enum IntEnum StrEnum Flag IntFlag Generic Protocol ABC ABCMeta
    namedtuple NamedTuple TypedDict TYPE_CHECKING abstractmethod _wall _WallAttr""".split())
BARRED_NAMES = set("""register mro elements open input law version_info with_traceback add_note args format format_map
    type id dir vars hash eval exec exit getattr setattr globals locals help os sys""".split())


def read(name):
    with open(os.path.join(FOLDER, name), encoding="utf-8") as file:
        return file.read()


def bound_names(tree):
    """All names that a file gives a meaning to."""
    found = set()
    for node in ast.walk(tree):
        if isinstance(node, (ast.FunctionDef, ast.ClassDef)):
            found.add(node.name)
        elif isinstance(node, ast.arg):
            found.add(node.arg)
        elif isinstance(node, ast.Name) and not isinstance(node.ctx, ast.Load):
            found.add(node.id)
        elif isinstance(node, ast.ImportFrom):
            found.update(alias.name for alias in node.names)
        elif isinstance(node, ast.ExceptHandler) and node.name:
            found.add(node.name)
    return found


class Language(unittest.TestCase):
    def each(self):
        for name in FILES:
            self.file = name
            text = read(name)
            yield name, text, ast.parse(text)

    def _formatMessage(self, msg, standardMsg):
        return super()._formatMessage(f"{getattr(self, 'file', '')}: {msg}", standardMsg)

    def test_files(self):
        self.assertIn("__init__.py", FILES)
        for name in FILES:
            self.assertRegex(name, r"^[a-z_0-9]+\.py$")
            self.assertNotIn(name[:-3], dir(builtins))

    def test_sizes_and_characters(self):
        for _, text, tree in self.each():
            self.assertLess(len(text.split("\n")), 400)
            self.assertRegex(text, r"\A[ -~\n]*\Z")
            self.assertLessEqual(max(map(len, text.split("\n"))), 120)
            for node in ast.walk(tree):
                if isinstance(node, ast.FunctionDef):
                    self.assertLessEqual(node.end_lineno - node.lineno + 1, 40, node.name)

    def test_words(self):
        for _, text, tree in self.each():
            self.assertFalse(BARRED_WORDS & set(re.findall(r"\w+", text)))
            self.assertFalse(re.search("dataclass|overload|contextmanager", text))
            for word in ("(type)", "Meta", "metaclass="):
                self.assertNotIn(word, text)
            for node in ast.walk(tree):
                if isinstance(node, ast.Constant) and isinstance(node.value, str):
                    self.assertNotIn("%", node.value)
                    self.assertFalse(re.search(r"(^|\W)__\w", node.value))

    def test_imports(self):
        needs = {}
        for name, _, tree in self.each():
            needs[name[:-3]] = set()
            for node in ast.walk(tree):
                self.assertNotIsInstance(node, ast.Import)
                if isinstance(node, ast.ImportFrom):
                    self.assertIn(node, tree.body)
                    self.assertEqual(node.level, 0)
                    names = {alias.name for alias in node.names}
                    self.assertTrue(all(alias.asname is None for alias in node.names))
                    if node.module in LIBRARY:
                        self.assertLessEqual(names, LIBRARY[node.module])
                    else:
                        package, module = node.module.split(".")
                        self.assertEqual(package, "alldrawn")
                        needs[name[:-3]].add(module)
                        defined = {part.name for part in ast.parse(read(module + ".py")).body if hasattr(part, "name")}
                        assigned = {target.id for part in ast.parse(read(module + ".py")).body
                                    if isinstance(part, ast.Assign) for target in part.targets}
                        self.assertLessEqual(names, defined | assigned)
        while needs:
            free = [name for name in needs if not needs[name]]
            self.assertTrue(free, f"files that import from each other: {sorted(needs)}")
            needs = {name: needs[name] - set(free) for name in needs if name not in free}

    def test_all_that_is_imported_is_used(self):
        for _, _, tree in self.each():
            used = {node.id for node in ast.walk(tree) if isinstance(node, ast.Name)}
            for node in tree.body:
                if isinstance(node, ast.ImportFrom):
                    self.assertLessEqual({alias.name for alias in node.names}, used)

    def test_module_level(self):
        for _, _, tree in self.each():
            for node in tree.body:
                self.assertIsInstance(node, (ast.Expr, ast.ImportFrom, ast.Assign, ast.FunctionDef, ast.ClassDef))
                if isinstance(node, ast.Expr):
                    self.assertIsInstance(node.value, ast.Constant)
            names = [node.name for node in tree.body if hasattr(node, "name")]
            self.assertEqual(len(names), len(set(names)))

    def test_statements(self):
        for _, _, tree in self.each():
            for node in ast.walk(tree):
                if isinstance(node, ast.stmt):
                    self.assertIsInstance(node, STATEMENTS, getattr(node, "lineno", None))
                if isinstance(node, ast.Expr):
                    self.assertIsInstance(node.value, (ast.Constant, ast.Call, ast.Yield, ast.YieldFrom), node.lineno)
                self.assertNotIsInstance(node, ast.Div)
                self.assertNotIsInstance(getattr(node, "value", None), (float, complex))

    def test_names(self):
        for _, _, tree in self.each():
            own = bound_names(tree)
            self.assertFalse(own & (set(dir(builtins)) | BARRED_NAMES))
            for name in own:
                self.assertTrue(name in SPECIAL or not name.startswith("__"), name)
            for node in ast.walk(tree):
                if isinstance(node, ast.Name) and node.id not in own:
                    self.assertIn(node.id, BUILTINS, node.lineno)

    def test_no_local_name_of_a_class_or_an_import(self):
        for _, _, tree in self.each():
            barred = {node.name for node in tree.body if isinstance(node, ast.ClassDef)}
            barred |= {alias.name for node in tree.body if isinstance(node, ast.ImportFrom) for alias in node.names}
            for function in ast.walk(tree):
                if isinstance(function, ast.FunctionDef):
                    local = bound_names(function) - {function.name}
                    self.assertFalse(local & barred, function.name)

    def test_classes(self):
        for _, _, tree in self.each():
            for node in ast.walk(tree):
                if isinstance(node, ast.ClassDef):
                    self.assertFalse(node.decorator_list or node.keywords)
                    methods = [part.name for part in node.body if isinstance(part, ast.FunctionDef)]
                    self.assertEqual(len(methods), len(set(methods)))
                    if "__getitem__" in methods:
                        self.assertIn("__iter__", methods)
                    stored = {part.attr for part in ast.walk(node)
                              if isinstance(part, ast.Attribute) and isinstance(part.ctx, ast.Store)}
                    self.assertFalse(stored & set(methods))
                    self.assertFalse(stored & METHODS - FREE_ATTRIBUTES)
                if isinstance(node, ast.FunctionDef) and node.name in OPERATOR_ARGUMENTS:
                    self.assertEqual([arg.arg for arg in node.args.args], OPERATOR_ARGUMENTS[node.name])

    def test_methods_that_are_called(self):
        own = {node.name for _, _, tree in self.each() for node in ast.walk(tree) if isinstance(node, ast.FunctionDef)}
        for _, _, tree in self.each():
            for node in ast.walk(tree):
                if isinstance(node, ast.Call) and isinstance(node.func, ast.Attribute):
                    self.assertIn(node.func.attr, METHODS | own, node.lineno)
                    self.assertNotEqual(node.func.attr, "sort", node.lineno)
                if isinstance(node, ast.Attribute):
                    self.assertFalse(node.attr.startswith("__") and node.attr not in ("__init__", "__class__"))

    def test_generator_expressions(self):
        # Where a class has __eq__, these take lists.
        for _, _, tree in self.each():
            for node in ast.walk(tree):
                if isinstance(node, ast.Call) and isinstance(node.func, ast.Name):
                    if node.func.id in ("any", "all", "min", "max", "sum", "sorted"):
                        for part in node.args:
                            self.assertNotIsInstance(part, ast.GeneratorExp, node.lineno)

    def test_what_a_loop_iterates_over_stays(self):
        for _, _, tree in self.each():
            for loop in ast.walk(tree):
                if isinstance(loop, ast.For) and isinstance(loop.iter, ast.Name):
                    for node in ast.walk(loop):
                        if isinstance(node, ast.Call) and isinstance(node.func, ast.Attribute):
                            self.assertFalse(node.func.attr in ("append", "extend", "pop", "remove", "insert", "clear")
                                             and getattr(node.func.value, "id", None) == loop.iter.id, node.lineno)

    def test_errors(self):
        for _, _, tree in self.each():
            for node in ast.walk(tree):
                if isinstance(node, ast.Raise) and node.exc is not None:
                    self.assertIsInstance(node.exc, ast.Call)
                    self.assertIsInstance(node.exc.func, ast.Name)
                if isinstance(node, ast.ExceptHandler):
                    self.assertIsNotNone(node.type)


if __name__ == "__main__":
    unittest.main()
