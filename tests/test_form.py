"""[3] no clock, no random numbers, no files; and the form of the package's own files, as far as it can be read off."""

import ast
import builtins
import pathlib
import re
import unittest

PACKAGE = pathlib.Path(__file__).resolve().parent.parent / "hushkernel"
FILES = sorted(PACKAGE.rglob("*.py"))
TREES = {path: ast.parse(path.read_text(encoding="utf-8")) for path in FILES}

LIBRARY = {"math": {"gcd", "lcm", "isqrt", "comb", "perm", "factorial"}, "heapq": {"heappush", "heappop"}}
BUILTINS = set(
    "len range enumerate zip min max sum abs sorted reversed int str bool list tuple dict set isinstance ord repr any all "
    "divmod ValueError TypeError KeyError IndexError LookupError iter next".split()
)
METHODS = set(
    "append clear copy count endswith extend find get index insert isalnum isalpha isdigit islower isspace isupper items "
    "join keys ljust lower lstrip partition pop remove replace reverse rfind rjust rpartition rsplit rstrip setdefault "
    "split splitlines startswith strip update upper values zfill bit_length".split()
)
DUNDERS = {"__init__", "__eq__", "__len__", "__getitem__", "__iter__"}
NO_ATTRIBUTES = set(
    "items keys values pop update append clear extend insert remove reverse setdefault sort args encode decode hex fromhex "
    "format".split()
)
NO_WORDS = set(
    "type typing typing_extensions enum Enum IntEnum StrEnum Flag IntFlag Generic Protocol ABC ABCMeta namedtuple NamedTuple "
    "TypedDict TYPE_CHECKING abstractmethod register mro elements open input law version_info with_traceback add_note".split()
)
NO_NAMES = re.compile(r"__|_wall|_pe_|_dcw_|_enum_|_cm_|_twin_re_|_lay_|_law_|_stub_|_sre|_WallAttr|"
                      r"(_cold|_tuplegetter|_outside|_record|_written_out|_member_names)[0-9_]*$")
STATEMENTS = (
    ast.Assign, ast.AugAssign, ast.If, ast.While, ast.For, ast.Return, ast.Break, ast.Continue, ast.Pass, ast.Raise, ast.Assert,
    ast.Delete, ast.Try, ast.Expr, ast.FunctionDef, ast.ClassDef, ast.ImportFrom,
)


def nodes(kind):
    """Each node of a kind, with its file and its place."""
    for path, tree in TREES.items():
        for node in ast.walk(tree):
            if isinstance(node, kind):
                yield node, f"{path.name}:{getattr(node, 'lineno', '')}"


def names_bound(tree):
    """Each name that a file binds, anywhere."""
    for node in ast.walk(tree):
        if isinstance(node, ast.Name) and not isinstance(node.ctx, ast.Load):
            yield node.id
        elif isinstance(node, ast.arg):
            yield node.arg
        elif isinstance(node, (ast.FunctionDef, ast.ClassDef)):
            yield node.name
        elif isinstance(node, ast.alias) or (isinstance(node, ast.ExceptHandler) and node.name):
            yield node.name


OWN_METHODS = {item.name for node, _ in nodes(ast.ClassDef) for item in node.body if isinstance(item, ast.FunctionDef)}
OWN_ATTRIBUTES = {node.attr for node, _ in nodes(ast.Attribute) if isinstance(node.ctx, ast.Store)}


class TestFiles(unittest.TestCase):
    def test_only_plain_files(self):
        found = [path for path in PACKAGE.rglob("*") if "__pycache__" not in path.parts]
        self.assertEqual([path for path in found if not re.fullmatch(r"[a-z_]+\.py", path.name)], [])

    def test_sizes_and_characters(self):
        for path in FILES:
            text = path.read_text(encoding="utf-8")
            self.assertTrue(all(" " <= sign <= "~" or sign == "\n" for sign in text), path)
            lines = text.split("\n")
            self.assertLessEqual(len(lines), 400, path)
            self.assertLessEqual(max(len(line) for line in lines), 120, path)
        for node, place in nodes(ast.FunctionDef):
            self.assertLessEqual(node.end_lineno - node.lineno + 1, 40, place)

    def test_module_level(self):
        for path, tree in TREES.items():
            bound = []
            for at, node in enumerate(tree.body):
                doc = at == 0 and isinstance(node, ast.Expr) and isinstance(node.value, ast.Constant)
                kinds = (ast.ImportFrom, ast.FunctionDef, ast.ClassDef, ast.Assign)
                self.assertTrue(doc or isinstance(node, kinds), f"{path}:{node.lineno}")
                if isinstance(node, ast.Assign):
                    self.assertEqual([type(target) for target in node.targets], [ast.Name])
                    bound.append(node.targets[0].id)
                    self.assertEqual([sub for sub in ast.walk(node.value) if isinstance(sub, (ast.Call, ast.List))], [])
                elif not doc:
                    bound += [alias.name for alias in node.names] if isinstance(node, ast.ImportFrom) else [node.name]
            self.assertEqual(len(bound), len(set(bound)), path)

    def test_imports(self):
        edges = {}
        for node, place in nodes(ast.ImportFrom):
            self.assertEqual([alias.asname for alias in node.names if alias.asname], [], place)
            self.assertEqual(node.level, 0, place)
            for alias in node.names:
                if node.module in LIBRARY:
                    self.assertIn(alias.name, LIBRARY[node.module], place)
                else:
                    source = PACKAGE.parent / (node.module.replace(".", "/") + ".py")
                    self.assertIn(alias.name, set(names_bound(TREES[source])), place)
                    self.assertFalse(any(alias.name in {a.name for a in n.names} for n in TREES[source].body
                                         if isinstance(n, ast.ImportFrom)), place)
                    edges.setdefault(place.split(":")[0], set()).add(source.name)
        self.assertEqual([place for _, place in nodes(ast.Import)], [])
        order = []
        while len(order) < len(FILES):
            free = [p.name for p in FILES if p.name not in order and edges.get(p.name, set()) <= set(order)]
            self.assertNotEqual(free, [], "files import from each other")
            order += free

    def test_imported_names_are_used(self):
        for path, tree in TREES.items():
            used = {node.id for node in ast.walk(tree) if isinstance(node, ast.Name)}
            told = {alias.name for node in tree.body if isinstance(node, ast.ImportFrom) for alias in node.names}
            self.assertEqual(told - used, set(), path)


class TestStatements(unittest.TestCase):
    def test_statements(self):
        for node, place in nodes(ast.stmt):
            self.assertIsInstance(node, STATEMENTS, place)

    def test_classes_and_functions(self):
        for node, place in nodes(ast.ClassDef):
            self.assertEqual((node.decorator_list, node.keywords), ([], []), place)
        for node, place in nodes(ast.FunctionDef):
            self.assertEqual(node.decorator_list, [], place)
            if node.name.startswith("__"):
                self.assertIn(node.name, DUNDERS, place)

    def test_expressions(self):
        barred = (ast.GeneratorExp, ast.Yield, ast.YieldFrom, ast.Await, ast.MatMult, ast.Div, ast.NamedExpr, ast.Set)
        self.assertEqual([place for _, place in nodes(barred)], [])
        for node, place in nodes(ast.Constant):
            self.assertIsInstance(node.value, (int, str, type(None)), place)
            if isinstance(node.value, str):
                self.assertNotIn("%", node.value, place)
        for node, place in nodes(ast.Compare):
            for sign, other in zip(node.ops, node.comparators):
                if isinstance(sign, (ast.Is, ast.IsNot)):
                    self.assertIsInstance(other, ast.Constant, place)
                    self.assertIn(other.value, (None, True, False), place)

    def test_sets_stand_in_len_or_sorted_alone(self):
        inside = set()
        for node, _ in nodes(ast.Call):
            if isinstance(node.func, ast.Name) and node.func.id in ("len", "sorted"):
                inside |= {id(arg) for arg in node.args}
        for node, place in nodes((ast.Call, ast.SetComp)):
            if isinstance(node, ast.SetComp) or (isinstance(node.func, ast.Name) and node.func.id == "set"):
                self.assertIn(id(node), inside, place)

    def test_errors(self):
        for node, place in nodes(ast.ExceptHandler):
            caught = node.type.elts if isinstance(node.type, ast.Tuple) else [node.type]
            for error in caught:
                self.assertTrue(error.id in ("KeyError", "ZeroDivisionError") or error.id not in dir(builtins), place)
        for node, place in nodes(ast.Raise):
            if node.exc is not None:
                self.assertTrue(isinstance(node.exc, ast.Call) and isinstance(node.exc.func, ast.Name), place)


class TestObjects(unittest.TestCase):
    """What stands in a file once some class has an index, a length and a loop."""

    def test_ends(self):
        """A `finally` only puts names and attributes back."""
        for node, place in nodes(ast.Try):
            for row in node.finalbody:
                self.assertIsInstance(row, ast.Assign, place)
                kinds = (ast.Name, ast.Attribute, ast.Tuple, ast.Load, ast.Store)
                for part in [*row.targets, row.value]:
                    self.assertEqual([sub for sub in ast.walk(part) if not isinstance(sub, kinds)], [], place)

    def test_lengths_and_loops(self):
        for node, place in nodes(ast.FunctionDef):
            if node.name in ("__len__", "__iter__"):
                self.assertEqual([type(row) for row in node.body], [ast.Return], place)
                self.assertEqual(node.body[0].value.func.id, "len" if node.name == "__len__" else "iter", place)
        for node, place in nodes(ast.ClassDef):
            own = {item.name for item in node.body if isinstance(item, ast.FunctionDef)}
            self.assertTrue("__iter__" in own or "__getitem__" not in own, place)
        calls = [place for node, place in nodes(ast.Call) if isinstance(node.func, ast.Name) and node.func.id == "iter"]
        self.assertEqual(len(calls), len([node for node, _ in nodes(ast.FunctionDef) if node.name == "__iter__"]))

    def test_words_and_names(self):
        for path in FILES:
            for word in ("(type)", "Meta", "metaclass="):
                self.assertNotIn(word, path.read_text(encoding="utf-8"), path)
        self.assertNotIn("keys", OWN_METHODS | OWN_ATTRIBUTES)


class TestNames(unittest.TestCase):
    def test_bound_names(self):
        for path, tree in TREES.items():
            top = {node.name for node in tree.body if isinstance(node, ast.ClassDef)}
            top |= {alias.name for node in tree.body if isinstance(node, ast.ImportFrom) for alias in node.names}
            for name in names_bound(tree):
                if name not in DUNDERS and name not in OWN_METHODS:
                    self.assertNotIn(name, dir(builtins), path)
                    self.assertIsNone(NO_NAMES.match(name), path)
            for node in ast.walk(tree):
                if isinstance(node, ast.Name) and isinstance(node.ctx, ast.Store):
                    self.assertNotIn(node.id, top, path)
                if isinstance(node, ast.arg):
                    self.assertNotIn(node.arg, top, path)

    def test_names_that_are_read(self):
        for path, tree in TREES.items():
            known = set(names_bound(tree)) | BUILTINS
            for node in ast.walk(tree):
                if isinstance(node, ast.Name) and isinstance(node.ctx, ast.Load):
                    self.assertIn(node.id, known, path)
                    self.assertNotEqual(node.id, "_", path)

    def test_words(self):
        for path, tree in TREES.items():
            words = {node.id for node in ast.walk(tree) if isinstance(node, ast.Name)} | set(names_bound(tree))
            words |= {node.attr for node in ast.walk(tree) if isinstance(node, ast.Attribute)}
            for node in ast.walk(tree):
                if isinstance(node, ast.Constant) and isinstance(node.value, str):
                    words |= set(re.findall(r"\w+", node.value)) & NO_WORDS - {"open", "input", "law", "elements"}
            self.assertEqual(words & NO_WORDS, set(), path)

    def test_attributes_and_methods(self):
        methods, attributes = OWN_METHODS, OWN_ATTRIBUTES
        for node, place in nodes(ast.Call):
            if isinstance(node.func, ast.Attribute):
                self.assertIn(node.func.attr, METHODS | methods, place)
        for node, place in nodes(ast.Attribute):
            self.assertIn(node.attr, METHODS | methods | attributes, place)
        self.assertEqual(attributes & NO_ATTRIBUTES, set())
        taken = set()
        for kind in (str, int, list, dict, set, bytes):
            taken |= set(dir(kind))
        self.assertEqual(methods & taken - DUNDERS - METHODS, set())

    def test_no_name_is_a_method_and_an_attribute(self):
        self.assertEqual(OWN_METHODS & OWN_ATTRIBUTES, set())

    def test_module_level_lists_and_dicts_are_only_read(self):
        """They stand behind an index, a method that reads, or in a loop or test: never alone as an argument."""
        tables = {target.id for node, _ in nodes(ast.Assign) for target in node.targets
                  if isinstance(target, ast.Name) and isinstance(node.value, (ast.Dict, ast.List)) and target.id.isupper()}
        for node, place in nodes(ast.Call):
            for arg in node.args:
                if isinstance(arg, ast.Name) and not (isinstance(node.func, ast.Name) and node.func.id in BUILTINS):
                    self.assertNotIn(arg.id, tables, place)


if __name__ == "__main__":
    unittest.main()
