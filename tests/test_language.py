"""The rules of the language that can be seen in the text of a file; the others are kept by reading."""

import ast
import builtins
import pathlib
import unittest

ROOT = pathlib.Path(__file__).resolve().parent.parent
PACKAGE = ROOT / "fillbooks"

LIBRARY = {
    "heapq": {"heappush", "heappop", "heapify", "heapreplace", "heappushpop"},
    "math": {"gcd", "lcm", "isqrt", "comb", "perm", "factorial"},
    "itertools": {"chain", "accumulate", "pairwise", "islice", "zip_longest"},
    "collections": {"defaultdict"},
}
BUILTINS = set("""
    len range enumerate zip min max sum abs sorted reversed int str bool list tuple dict set isinstance ord repr any
    all divmod pow Exception ValueError TypeError KeyError IndexError LookupError ZeroDivisionError ArithmeticError
    OverflowError RuntimeError NotImplementedError AttributeError StopIteration NotImplemented iter next map property
    super getattr hasattr setattr staticmethod classmethod
""".split())
METHODS = set("""
    append clear copy count endswith extend find get index insert isalnum isalpha isdigit islower isspace isupper items
    join keys ljust lower lstrip partition pop remove replace reverse rfind rjust rpartition rsplit rstrip setdefault
    split splitlines startswith strip update upper values zfill bit_length add discard
""".split())
BARRED_NAMES = set("register mro elements open input law version_info with_traceback add_note".split())
BARRED_WORDS = """type typing typing_extensions enum Enum IntEnum StrEnum Flag IntFlag Generic Protocol ABC ABCMeta
    namedtuple NamedTuple TypedDict TYPE_CHECKING abstractmethod dataclass overload contextmanager""".split()
BARRED_STARTS = ("__", "_wall", "_pe_", "_dcw_", "_enum_", "_cm_", "_twin_re_", "_lay_", "_law_", "_stub_", "_sre")
DOUBLE = set("""__init__ __eq__ __repr__ __str__ __len__ __enter__ __exit__ __call__ __iter__ __contains__ __or__
    __rshift__ __ne__""".split())
DECORATORS = {"property", "staticmethod", "classmethod", "setter"}
BARRED_ATTRIBUTES = """items keys values pop update append clear extend insert remove reverse setdefault sort args encode
    decode hex fromhex format format_map mro""".split()
CHANGING = "append clear extend insert pop remove reverse setdefault sort update add discard".split()
OPERATORS = {"__eq__", "__len__", "__contains__", "__or__", "__rshift__"}
BARRED_NODES = (ast.Global, ast.AsyncFunctionDef, ast.AsyncFor, ast.AsyncWith, ast.Await, ast.Div, ast.MatMult,
                ast.Import, ast.TryStar)


def files():
    return sorted(PACKAGE.rglob("*.py"))


def tree_of(path):
    return ast.parse(path.read_text(encoding="utf-8"))


def nodes(path, *kinds):
    return [node for node in ast.walk(tree_of(path)) if isinstance(node, kinds)]


def bound_at_top(path):
    names = []
    for node in tree_of(path).body:
        if isinstance(node, (ast.FunctionDef, ast.ClassDef)):
            names.append(node.name)
        elif isinstance(node, ast.Assign):
            names.extend(target.id for target in node.targets)
        elif isinstance(node, ast.ImportFrom):
            names.extend(alias.name for alias in node.names)
    return names


def given_names(path):
    """All names that a file gives to something: variables, parameters, functions, classes."""
    found = [node.id for node in nodes(path, ast.Name) if not isinstance(node.ctx, ast.Load)]
    found += [node.arg for node in nodes(path, ast.arg)]
    found += [node.name for node in nodes(path, ast.FunctionDef, ast.ClassDef)]
    return found


def base_of(node):
    """The node at the left end of a chain of attributes, items and calls."""
    while isinstance(node, (ast.Attribute, ast.Subscript, ast.Call)):
        node = node.func if isinstance(node, ast.Call) else node.value
    return node


def changed_names(function):
    """The names of what a function changes: an item, an attribute, a list by one of its methods."""
    found = set()
    for node in ast.walk(function):
        if isinstance(node, (ast.Attribute, ast.Subscript)) and not isinstance(node.ctx, ast.Load):
            found.add(ast.unparse(base_of(node)))
        if isinstance(node, ast.Call) and isinstance(node.func, ast.Attribute) and node.func.attr in CHANGING:
            found.add(ast.unparse(base_of(node)))
    return found


def is_made(value):
    """Whether the value is written as a new list or dict."""
    if isinstance(value, ast.Call):
        return ast.unparse(value.func) in ("list", "dict", "sorted")
    if isinstance(value, ast.BinOp) and isinstance(value.op, (ast.Add, ast.Mult)):
        return is_made(value.left) or is_made(value.right)
    return isinstance(value, (ast.List, ast.Dict, ast.ListComp, ast.DictComp))


def made_names(function):
    """The local names of a function that are only ever assigned new lists and dicts."""
    made, others = set(), {arg.arg for arg in function.args.args}
    for node in ast.walk(function):
        if isinstance(node, ast.Assign):
            for target in node.targets:
                if isinstance(target, ast.Name):
                    (made if is_made(node.value) else others).add(target.id)
                else:
                    others |= {part.id for part in ast.walk(target) if isinstance(part, ast.Name)
                               and isinstance(part.ctx, ast.Store)}
        elif isinstance(node, (ast.For, ast.comprehension)):
            others |= {part.id for part in ast.walk(node.target) if isinstance(part, ast.Name)}
    return made - others


def on_each_file(check):
    def test(self):
        for path in files():
            with self.subTest(file=path.name):
                check(self, path)
    return test


class TestLanguage(unittest.TestCase):
    def test_files(self):
        self.assertIn(PACKAGE / "__init__.py", files())
        for path in PACKAGE.rglob("*"):
            if "__pycache__" not in path.parts:
                self.assertTrue(path.suffix == ".py" and path.name == path.name.lower(), path)
        self.assertEqual([path for path in PACKAGE.rglob("test*")], [])

    @on_each_file
    def test_characters_and_sizes(self, path):
        text = path.read_text(encoding="utf-8")
        self.assertEqual([sign for sign in text if not (" " <= sign <= "~" or sign == "\n")], [])
        self.assertLessEqual(len(text.split("\n")), 399)
        self.assertLessEqual(max(map(len, text.split("\n"))), 120)
        for node in nodes(path, ast.FunctionDef):
            self.assertLessEqual(node.end_lineno - node.lineno + 1, 40, node.name)

    @on_each_file
    def test_imports(self, path):
        tops = [row for row in tree_of(path).body if isinstance(row, ast.ImportFrom)]
        self.assertEqual(len(tops), len(nodes(path, ast.ImportFrom)))
        for node in nodes(path, ast.ImportFrom):
            self.assertEqual(node.level, 0)
            self.assertEqual([alias for alias in node.names if alias.asname or alias.name == "*"], [])
            names = {alias.name for alias in node.names}
            if node.module in LIBRARY:
                self.assertLessEqual(names, LIBRARY[node.module])
            else:
                home = ROOT / (node.module.replace(".", "/") + ".py")
                defined = {row.name for row in tree_of(home).body if hasattr(row, "name")}
                defined |= {target.id for row in tree_of(home).body if isinstance(row, ast.Assign)
                            for target in row.targets}
                self.assertLessEqual(names, defined)

    def test_no_round_of_imports(self):
        asks = {path.stem: {node.module.split(".")[-1] for node in nodes(path, ast.ImportFrom)
                            if node.module.startswith("fillbooks.")} for path in files()}
        while asks:
            free = [name for name in asks if not asks[name] & set(asks)]
            self.assertNotEqual(free, [], asks)
            asks = {name: asks[name] for name in asks if name not in free}

    @on_each_file
    def test_module_level(self, path):
        for node in tree_of(path).body:
            if isinstance(node, ast.Expr):
                self.assertIsInstance(node.value.value, str)
            else:
                self.assertIsInstance(node, (ast.ImportFrom, ast.FunctionDef, ast.ClassDef, ast.Assign))
        names = bound_at_top(path)
        self.assertEqual(sorted(names), sorted(set(names)))

    @on_each_file
    def test_statements_and_signs(self, path):
        self.assertEqual([ast.unparse(node) for node in nodes(path, *BARRED_NODES)], [])
        self.assertEqual([node.value for node in nodes(path, ast.Constant)
                          if isinstance(node.value, (float, complex))], [])
        for node in nodes(path, ast.Constant):
            if isinstance(node.value, str):
                self.assertNotIn("%", node.value)
        for node in nodes(path, ast.FunctionDef, ast.ClassDef):
            for row in node.decorator_list:
                self.assertIn(ast.unparse(row).split(".")[-1], DECORATORS)
        for node in nodes(path, ast.Compare):
            for sign, side in zip(node.ops, node.comparators):
                if isinstance(sign, (ast.Is, ast.IsNot)):
                    self.assertIn(ast.unparse(side), ("None", "True", "False"))

    @on_each_file
    def test_builtins(self, path):
        known = set(bound_at_top(path)) | set(given_names(path))
        for node in nodes(path, ast.Name):
            if isinstance(node.ctx, ast.Load) and node.id not in known:
                self.assertIn(node.id, BUILTINS)

    @on_each_file
    def test_names(self, path):
        for name in given_names(path):
            self.assertNotIn(name, BARRED_NAMES)
            if name not in DOUBLE:
                self.assertFalse(hasattr(builtins, name), name)
                self.assertFalse(name.startswith(BARRED_STARTS), name)
        for node in nodes(path, ast.Attribute):
            self.assertNotIn(node.attr, BARRED_NAMES)

    @on_each_file
    def test_words(self, path):
        bare = ast.unparse(tree_of(path))
        for node in nodes(path, ast.Name, ast.Attribute, ast.arg, ast.FunctionDef, ast.ClassDef, ast.keyword):
            for name in ast.iter_fields(node):
                self.assertNotIn(name[1] if isinstance(name[1], str) else "", BARRED_WORDS)
        for word in ("_wall", "_WallAttr", "dataclass", "overload", "contextmanager"):
            self.assertNotIn(word, bare)

    @on_each_file
    def test_methods(self, path):
        own = {node.name for path in files() for kind in nodes(path, ast.ClassDef) for node in kind.body
               if isinstance(node, ast.FunctionDef)}
        for node in nodes(path, ast.Call):
            if isinstance(node.func, ast.Attribute):
                self.assertIn(node.func.attr, METHODS | own)

    @on_each_file
    def test_local_names(self, path):
        """No parameter and no local name is that of a class or of an import of the file."""
        taken = {alias.name for node in nodes(path, ast.ImportFrom) for alias in node.names}
        taken |= {node.name for node in nodes(path, ast.ClassDef)}
        local = [node.id for node in nodes(path, ast.Name) if not isinstance(node.ctx, ast.Load)]
        local += [node.arg for node in nodes(path, ast.arg)]
        self.assertEqual(sorted(taken & set(local)), [])

    @on_each_file
    def test_attributes(self, path):
        for node in nodes(path, ast.Attribute):
            if not isinstance(node.ctx, ast.Load):
                self.assertNotIn(node.attr, BARRED_ATTRIBUTES)
        for kind in nodes(path, ast.ClassDef):
            methods = {node.name for node in kind.body if isinstance(node, ast.FunctionDef)}
            kept = {node.attr for node in ast.walk(kind) if isinstance(node, ast.Attribute)
                    and not isinstance(node.ctx, ast.Load)}
            self.assertEqual(sorted(methods & kept), [])

    @on_each_file
    def test_no_generators(self, path):
        """Where a class has `__eq__`, as it will here, `any`, `sorted` and the like take lists."""
        self.assertEqual([ast.unparse(node) for node in nodes(path, ast.GeneratorExp, ast.Yield, ast.YieldFrom)], [])

    def test_what_operators_and_properties_run_changes_nothing(self):
        """They, and all functions that they run, change only lists and dicts that they make themselves."""
        known, kinds, todo = {}, [], []
        for path in files():
            for node in tree_of(path).body:
                if isinstance(node, ast.FunctionDef):
                    known.setdefault(node.name, []).append(node)
                elif isinstance(node, ast.ClassDef):
                    kinds.append(node)
        for kind in kinds:
            for node in kind.body:
                if isinstance(node, ast.FunctionDef) and (node.name in OPERATORS or node.decorator_list):
                    self.assertEqual(sorted(changed_names(node)), [], node.name)
                    todo += self.called(node)
        self.assertLessEqual({"alike", "joined", "_check_is_book", "Book"}, set(todo))
        todo, seen = todo + ["check_book"], set()
        while todo:
            name = todo.pop()
            if name in seen:
                continue
            seen.add(name)
            for function in known.get(name, []):
                self.assertEqual(sorted(changed_names(function) - made_names(function)), [], name)
                self.assertFalse(set(self.called(function)) & {arg.arg for arg in function.args.args}, name)
                todo += self.called(function)
        self.assertIn("merged_rows", seen)

    def called(self, function):
        """The names that a function calls."""
        return [node.func.id for node in ast.walk(function) if isinstance(node, ast.Call) and isinstance(node.func, ast.Name)]

    def test_properties_are_not_assigned(self):
        """Not in any class: an attribute of that name would have to have a setter."""
        names = {node.name for path in files() for node in nodes(path, ast.FunctionDef) if node.decorator_list}
        self.assertEqual(names, {"rules", "store", "books"})
        for path in files():
            self.assertEqual([node.attr for node in nodes(path, ast.Attribute) if node.attr in names and not isinstance(node.ctx, ast.Load)], [])

if __name__ == "__main__":
    unittest.main()
