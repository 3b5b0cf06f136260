"""The rules of the Python subset that a small check can see, for every file of the package."""

import ast
import builtins
import functools
import itertools
import pathlib
import re
import unittest
import warnings

PACKAGE = pathlib.Path(__file__).resolve().parent.parent / "everyparcel"

LIBRARY = {
    "heapq": {"heappush", "heappop", "heapify", "heapreplace", "heappushpop"},
    "math": {"gcd", "lcm", "isqrt", "comb", "perm", "factorial"},
    "itertools": {
        "product", "combinations", "permutations", "chain", "accumulate", "pairwise", "islice", "zip_longest",
    },
    "collections": {"defaultdict", "deque"},
}
BUILTINS = set(
    "len range enumerate zip min max sum abs sorted reversed int str bool list tuple dict set isinstance ord repr any"
    " all divmod pow iter next map property staticmethod classmethod super Exception ValueError TypeError KeyError"
    " IndexError LookupError ZeroDivisionError ArithmeticError OverflowError RuntimeError NotImplementedError"
    " AttributeError NotImplemented True False None".split()
)
METHODS = set(
    "append clear copy count endswith extend find get index insert isalnum isalpha isdigit islower isspace isupper"
    " items join keys ljust lower lstrip partition pop remove replace reverse rfind rjust rpartition rsplit rstrip"
    " setdefault split splitlines startswith strip update upper values zfill bit_length add discard".split()
)
BARRED = set(
    "typing typing_extensions enum Enum IntEnum StrEnum Flag IntFlag Generic Protocol ABC ABCMeta namedtuple"
    " NamedTuple TypedDict TYPE_CHECKING abstractmethod mro elements open input law version_info with_traceback"
    " add_note register eval exec globals locals compile delattr dir vars".split()
)
SPECIAL = set(
    "__init__ __eq__ __repr__ __str__ __len__ __enter__ __exit__ __call__ __iter__ __contains__ __add__".split()
)
STATEMENTS = (
    ast.Assign, ast.AugAssign, ast.If, ast.While, ast.For, ast.Return, ast.Break, ast.Continue, ast.Pass, ast.Raise,
    ast.Delete, ast.With, ast.Try, ast.Expr, ast.FunctionDef, ast.ClassDef, ast.ImportFrom,
)
NOT_USED = (
    ast.GeneratorExp, ast.Div, ast.AsyncFunctionDef, ast.Await, ast.Global, ast.NamedExpr, ast.AnnAssign, ast.Match,
    ast.Import, ast.MatMult,
)


def files():
    return sorted(PACKAGE.rglob("*.py"))


# The same nodes each time: docstrings are told from other strings by which node they are.
@functools.cache
def tree_of(path):
    return ast.parse(path.read_text(encoding="ascii"))


def nodes(kinds):
    for path in files():
        for node in ast.walk(tree_of(path)):
            if isinstance(node, kinds):
                yield path, node


def is_docstring(tree, node):
    for parent in ast.walk(tree):
        if isinstance(parent, (ast.Module, ast.ClassDef, ast.FunctionDef)):
            first = parent.body[0] if parent.body else None
            if isinstance(first, ast.Expr) and first.value is node:
                return True
    return False


def own_names(kinds):
    return {node.name for _, node in nodes(kinds)}


def bound_names(node):
    """The names of variables, parameters, functions, classes and imports that a file binds."""
    for part in ast.walk(node):
        if isinstance(part, ast.Name) and not isinstance(part.ctx, ast.Load):
            yield part.id
        elif isinstance(part, ast.arg):
            yield part.arg
        elif isinstance(part, ast.alias):
            yield part.asname or part.name
        elif isinstance(part, ast.ClassDef):
            yield part.name
            # A method may have the name of a builtin that the subset does not use.
            for member in part.body:
                if isinstance(member, ast.FunctionDef) and member.name in BUILTINS:
                    yield member.name
    for part in node.body:
        if isinstance(part, ast.FunctionDef):
            yield part.name


class FilesTest(unittest.TestCase):
    def test_the_folder_has_nothing_but_plain_python_files(self):
        for path in PACKAGE.iterdir():
            if path.name != "__pycache__":
                self.assertRegex(path.name, r"^([a-z][a-z0-9_]*|__init__)\.py$")

    def test_sizes_and_signs(self):
        for path in files():
            text = path.read_text(encoding="ascii")
            lines = text.split("\n")
            self.assertLess(len(lines), 400, path)
            for line in lines:
                self.assertLessEqual(len(line), 120, (path, line))
                self.assertRegex(line, r"^[ -~]*$", path)
                self.assertEqual(line, line.rstrip(), path)
            self.assertTrue(text.endswith("\n") and not text.endswith("\n\n"), path)

    def test_no_warnings(self):
        with warnings.catch_warnings():
            warnings.simplefilter("error")
            for path in files():
                compile(path.read_text(encoding="ascii"), str(path), "exec")

    def test_functions_have_at_most_40_lines(self):
        for path, node in nodes(ast.FunctionDef):
            self.assertLessEqual(node.end_lineno - node.lineno + 1, 40, (path, node.name))

    def test_barred_words(self):
        for path in files():
            words = re.findall(r"\w+", path.read_text(encoding="ascii"))
            for word in words:
                self.assertNotIn("dataclass", word, path)
                self.assertNotIn("contextmanager", word, path)
                self.assertFalse(word.startswith("_wall"), path)
        for path, node in nodes((ast.Name, ast.Attribute, ast.arg, ast.keyword)):
            name = getattr(node, "id", None) or getattr(node, "attr", None) or getattr(node, "arg", None)
            self.assertNotIn(name, BARRED, path)

    def test_strings(self):
        for path, node in nodes(ast.Constant):
            self.assertNotIsInstance(node.value, (float, complex), path)
            if isinstance(node.value, str) and not is_docstring(tree_of(path), node):
                self.assertNotIn("%", node.value, path)
                self.assertFalse(node.value.startswith("__") and node.value.endswith("__"), path)
                self.assertFalse(BARRED & set(re.findall(r"\w+", node.value)), path)


class StatementsTest(unittest.TestCase):
    def test_only_plain_statements_and_expressions(self):
        for path, node in nodes(ast.stmt):
            self.assertIsInstance(node, STATEMENTS, (path, node.lineno))
        for path, node in nodes(NOT_USED):
            self.fail((path, ast.dump(node)))

    def test_module_level(self):
        for path in files():
            for node in tree_of(path).body:
                plain = (ast.ImportFrom, ast.FunctionDef, ast.ClassDef, ast.Assign, ast.Expr)
                self.assertIsInstance(node, plain, path)
                if isinstance(node, ast.Expr):
                    self.assertTrue(is_docstring(tree_of(path), node.value), path)
                if isinstance(node, ast.Assign):
                    self.assertEqual([type(target) for target in node.targets], [ast.Name], path)
                    ast.literal_eval(node.value)

    def test_decorators_and_special_methods(self):
        for path, node in nodes(ast.FunctionDef):
            self.assertLessEqual(len(node.decorator_list), 1, path)
            for decorator in node.decorator_list:
                plain = isinstance(decorator, ast.Name) and decorator.id in ("property", "staticmethod", "classmethod")
                self.assertTrue(plain or decorator.attr == "setter", path)
            if node.name.startswith("__"):
                self.assertIn(node.name, SPECIAL, path)
        for path, node in nodes(ast.ClassDef):
            self.assertEqual(node.decorator_list, [], path)

    def test_names(self):
        for path in files():
            tree = tree_of(path)
            top = [node.name for node in tree.body if isinstance(node, (ast.FunctionDef, ast.ClassDef))]
            for node in tree.body:
                if isinstance(node, ast.ImportFrom):
                    top.extend(alias.asname or alias.name for alias in node.names)
                if isinstance(node, ast.Assign):
                    top.append(node.targets[0].id)
            self.assertEqual(len(top), len(set(top)), path)
            for name in bound_names(tree):
                # Where a test has shown a value, Python keeps it as a builtin `_`.
                self.assertFalse(name != "_" and hasattr(builtins, name), (path, name))
                self.assertRegex(name, r"^_?[A-Za-z][A-Za-z0-9_]*$|^_$", path)

    def test_locals_do_not_hide_imports_and_classes(self):
        for path in files():
            tree = tree_of(path)
            top = {alias.asname or alias.name for node in tree.body if isinstance(node, ast.ImportFrom)
                   for alias in node.names} | {node.name for node in tree.body if isinstance(node, ast.ClassDef)}
            for node in ast.walk(tree):
                if isinstance(node, (ast.FunctionDef, ast.Lambda)):
                    self.assertFalse({part.arg for part in ast.walk(node) if isinstance(part, ast.arg)} & top, path)
                if isinstance(node, ast.Name) and isinstance(node.ctx, ast.Store):
                    self.assertNotIn(node.id, top, path)


class ImportsTest(unittest.TestCase):
    def test_imports_name_the_defining_file(self):
        for path, node in nodes(ast.ImportFrom):
            self.assertEqual(node.level, 0, path)
            names = {alias.name for alias in node.names}
            if node.module in LIBRARY:
                self.assertLessEqual(names, LIBRARY[node.module], path)
                continue
            self.assertTrue(node.module.startswith("everyparcel."), (path, node.module))
            source = PACKAGE / (node.module.split(".")[1] + ".py")
            defined = set()
            for top in tree_of(source).body:
                if isinstance(top, (ast.FunctionDef, ast.ClassDef)):
                    defined.add(top.name)
                if isinstance(top, ast.Assign):
                    defined.add(top.targets[0].id)
            self.assertLessEqual(names, defined, path)

    def test_each_import_is_used(self):
        for path in files():
            tree = tree_of(path)
            used = {node.id for node in ast.walk(tree) if isinstance(node, ast.Name)}
            for node in tree.body:
                if isinstance(node, ast.ImportFrom):
                    self.assertLessEqual({alias.asname or alias.name for alias in node.names}, used, path)

    def test_no_files_import_from_each_other(self):
        imports = {path.stem: set() for path in files()}
        for path, node in nodes(ast.ImportFrom):
            if node.module.startswith("everyparcel."):
                imports[path.stem].add(node.module.split(".")[1])
        while imports:
            free = [name for name, others in imports.items() if not others & set(imports)]
            self.assertTrue(free, imports)
            for name in free:
                del imports[name]


def members():
    """The methods, properties and static methods of each class, and the attributes that its methods assign."""
    for path, node in nodes(ast.ClassDef):
        kinds = {"method": set(), "property": set(), "static": set(), "attribute": set()}
        for member in node.body:
            if isinstance(member, ast.FunctionDef):
                words = [getattr(one, "id", getattr(one, "attr", None)) for one in member.decorator_list]
                told = {"property": "property", "setter": "property", "staticmethod": "static"}
                kind = told.get(words[0], "method") if words else "method"
                kinds[kind].add(member.name)
                for part in ast.walk(member):
                    if isinstance(part, ast.Attribute) and isinstance(part.ctx, ast.Store):
                        kinds["attribute"].add(part.attr)
        yield path, node, kinds


class MembersTest(unittest.TestCase):
    """L5, L18 and L23: no name stands for two kinds of members."""

    def test_each_name_is_of_one_kind(self):
        found = {"method": set(), "property": set(), "static": set(), "attribute": set()}
        for _, _, kinds in members():
            for kind, names in kinds.items():
                found[kind] |= {name for name in names if not name.startswith("__")}
        assigned = {"most"}
        for kind, other in itertools.combinations(found, 2):
            self.assertEqual((found[kind] & found[other]) - assigned, set(), (kind, other))

    def test_generators_have_names_of_their_own(self):
        yielding = {node.name for _, node in nodes(ast.FunctionDef)
                    if any(isinstance(one, ast.Yield) for one in ast.walk(node))}
        self.assertEqual(yielding, {"courses", "walks"})
        for _, _, kinds in members():
            for names in kinds.values():
                self.assertEqual(names & yielding, set())

    def test_contexts_only_assign_at_their_end(self):
        found = [node for _, node in nodes(ast.FunctionDef) if node.name == "__exit__"]
        self.assertEqual(len(found), 1)
        for node in found:
            for row in node.body:
                self.assertIsInstance(row, ast.Assign)
                self.assertIsInstance(row.value, ast.Attribute)

    def test_super_is_called_in_methods_only(self):
        for path, node in nodes(ast.Call):
            if isinstance(node.func, ast.Name) and node.func.id == "super":
                self.assertEqual(node.args + node.keywords, [], path)
        for path, node in nodes((ast.ListComp, ast.DictComp, ast.SetComp, ast.Lambda)):
            self.assertNotIn("super", {part.id for part in ast.walk(node) if isinstance(part, ast.Name)}, path)


class CallsTest(unittest.TestCase):
    def test_builtins(self):
        for path in files():
            tree = tree_of(path)
            bound = set(bound_names(tree)) | {node.name for node in ast.walk(tree) if isinstance(node, ast.FunctionDef)}
            for node in ast.walk(tree):
                if isinstance(node, ast.Name) and isinstance(node.ctx, ast.Load) and node.id not in bound:
                    self.assertIn(node.id, BUILTINS, (path, node.lineno))

    def test_methods(self):
        own = own_names(ast.FunctionDef)
        for path, node in nodes(ast.Call):
            if isinstance(node.func, ast.Attribute) and node.func.attr not in own:
                self.assertIn(node.func.attr, METHODS, (path, node.lineno))
                self.assertEqual(node.keywords, [], (path, node.lineno))

    def test_views_are_iterated_at_once(self):
        for path, node in nodes((ast.Assign, ast.Return)):
            if isinstance(node.value, ast.Call):
                name = getattr(node.value.func, "id", None) or getattr(node.value.func, "attr", None)
                self.assertNotIn(name, ("zip", "enumerate", "reversed", "items", "keys", "values", "map"), path)

    def test_sets_are_not_iterated(self):
        for path, node in nodes((ast.For, ast.comprehension)):
            self.assertNotIsInstance(node.iter, (ast.Set, ast.SetComp), path)
            if isinstance(node.iter, ast.Call):
                self.assertNotEqual(getattr(node.iter.func, "id", None), "set", path)


if __name__ == "__main__":
    unittest.main()
