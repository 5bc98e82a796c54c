"""The form of the package's own files: those rules of ../shared/LANGUAGE.md that a file's tree shows."""

import ast
import builtins
import pathlib
import re
import unittest

PACKAGE = pathlib.Path(__file__).resolve().parent.parent / "homequay"
FILES = [path for path in sorted(PACKAGE.rglob("*")) if "__pycache__" not in path.parts]
TREES = {path: ast.parse(path.read_text()) for path in FILES}

ERROR_CLASSES = """Exception ValueError TypeError KeyError IndexError LookupError ZeroDivisionError ArithmeticError
    OverflowError RuntimeError NotImplementedError AttributeError StopIteration""".split()
OWN_OF_PYTHON = """len range enumerate zip min max sum abs sorted reversed int str bool list tuple dict set frozenset
    isinstance ord repr any all divmod""".split() + ERROR_CLASSES
METHODS_OF_PYTHON = """append clear copy count endswith extend find get index insert isalnum isalpha isdigit islower
    isspace isupper items join keys ljust lower lstrip partition pop remove replace reverse rfind rjust rpartition
    rsplit rstrip setdefault split splitlines startswith strip update upper values zfill bit_length""".split()
DOUBLE_UNDERSCORES = "__init__ __eq__ __repr__ __str__ __len__".split()
BARRED_NAMES = """register mro elements open input version_info with_traceback add_note format format_map""".split()
BARRED_WORDS = """type typing typing_extensions enum Enum IntEnum StrEnum Flag IntFlag Generic Protocol ABC ABCMeta
    namedtuple NamedTuple TypedDict TYPE_CHECKING abstractmethod""".split()
BARRED_WITHIN_WORDS = "dataclass overload contextmanager".split()
BARRED_FILES = "test tests testing site conftest sitecustomize usercustomize".split() + BARRED_WORDS + dir(builtins)
CHANGES = "append clear extend insert pop remove reverse setdefault update".split()
FREE_METHODS = METHODS_OF_PYTHON + ["add", "discard"]
FREE_VALUES = "count index title find get join lower upper split strip copy add".split()
NAMES_OF_VALUES = {name for kind in (str, int, list, tuple, dict, set, bytes) for name in dir(kind)}

STATEMENTS = (ast.FunctionDef, ast.ClassDef, ast.ImportFrom, ast.Assign, ast.AugAssign, ast.If, ast.While, ast.For,
              ast.Return, ast.Break, ast.Continue, ast.Pass, ast.Raise, ast.Try, ast.Expr)
EXPRESSIONS = (ast.Constant, ast.List, ast.Tuple, ast.Dict, ast.Set, ast.BinOp, ast.UnaryOp, ast.BoolOp, ast.Compare,
               ast.IfExp, ast.Call, ast.Attribute, ast.Subscript, ast.Slice, ast.ListComp, ast.JoinedStr,
               ast.FormattedValue, ast.Name, ast.Lambda)
PLAIN = (ast.Constant, ast.List, ast.Tuple, ast.Dict, ast.Name, ast.Load)


def nodes(*kinds):
    return [(path, node) for path, tree in TREES.items() for node in ast.walk(tree) if isinstance(node, kinds)]


def top_names(tree):
    names = []
    for node in tree.body:
        if isinstance(node, (ast.FunctionDef, ast.ClassDef)):
            names.append(node.name)
        if isinstance(node, ast.Assign):
            names += [target.id for target in node.targets]
        if isinstance(node, ast.ImportFrom):
            names += [alias.name for alias in node.names]
    return names


def local_names(tree):
    defs = [node for node in ast.walk(tree) if isinstance(node, (ast.FunctionDef, ast.Lambda))]
    inner = [node for outer in defs for node in ast.walk(outer)]
    stored = [node.id for node in inner if isinstance(node, ast.Name) and isinstance(node.ctx, ast.Store)]
    caught = [node.name for node in inner if isinstance(node, ast.ExceptHandler) and node.name]
    return stored + caught + [node.arg for node in inner if isinstance(node, ast.arg)]


def methods():
    return {node.name for path, owner in nodes(ast.ClassDef) for node in owner.body if isinstance(node, ast.FunctionDef)}


def values():
    return {node.attr for path, node in nodes(ast.Attribute) if isinstance(node.ctx, ast.Store)}


def walked_by(thing):
    """What a loop walks, itself or through enumerate, zip, reversed and items."""
    if isinstance(thing, ast.Call) and isinstance(thing.func, ast.Name) and thing.func.id in ("enumerate", "zip", "reversed"):
        return [part for given in thing.args for part in walked_by(given)]
    if isinstance(thing, ast.Call) and isinstance(thing.func, ast.Attribute) and thing.func.attr in ("items", "keys", "values"):
        return [thing.func.value]
    return [thing]


class FilesTest(unittest.TestCase):
    def test_names_and_signs(self):
        for path in FILES:
            self.assertTrue(re.fullmatch(r"(__init__|[a-z][a-z0-9_]*)\.py", path.name), path)
            self.assertEqual(path.parent, PACKAGE)
            self.assertNotIn(path.stem, BARRED_FILES)
            self.assertTrue(re.fullmatch(r"[ -~\n]*", path.read_text()), path)

    def test_sizes(self):
        for path in FILES:
            lines = path.read_text().splitlines()
            self.assertLessEqual(len(lines), 400, path)
            self.assertLessEqual(max(len(line) for line in lines), 120, path)
        for path, node in nodes(ast.FunctionDef):
            self.assertLessEqual(node.end_lineno - node.lineno + 1, 40, (path, node.name))

    def test_words_that_stand_nowhere(self):
        for path in FILES:
            for word in re.findall(r"\w+", path.read_text()):
                self.assertNotIn(word, BARRED_WORDS, path)
                self.assertFalse([part for part in BARRED_WITHIN_WORDS if part in word], path)

    def test_tops(self):
        for path, tree in TREES.items():
            self.assertTrue(ast.get_docstring(tree), path)
            for node in tree.body[1:]:
                self.assertIsInstance(node, (ast.ImportFrom, ast.FunctionDef, ast.ClassDef, ast.Assign), path)
                if isinstance(node, ast.Assign):
                    self.assertFalse([part for part in ast.walk(node.value) if not isinstance(part, PLAIN)], path)
            names = top_names(tree)
            self.assertEqual(len(names), len(set(names)), path)

    def test_imports(self):
        drawn = {path.stem: [] for path in FILES}
        for path, node in nodes(ast.ImportFrom):
            folder, stem = node.module.split(".")
            self.assertEqual((node.level, folder), (0, "homequay"), path)
            tree = TREES[PACKAGE / (stem + ".py")]
            defined = [part.name for part in tree.body if isinstance(part, (ast.FunctionDef, ast.ClassDef))]
            for alias in node.names:
                self.assertIn(alias.name, defined, path)
                self.assertIsNone(alias.asname, path)
            drawn[path.stem].append(stem)
        while drawn:
            free = [stem for stem in drawn if not drawn[stem]]
            self.assertTrue(free, drawn)
            drawn = {stem: [other for other in drawn[stem] if other not in free] for stem in drawn if stem not in free}

    def test_imports_are_used(self):
        for path, node in nodes(ast.ImportFrom):
            used = [part.id for part in ast.walk(TREES[path]) if isinstance(part, ast.Name)]
            for alias in node.names:
                self.assertIn(alias.name, used, path)


class StatementsTest(unittest.TestCase):
    def test_statements(self):
        for path, node in nodes(ast.stmt):
            where = (path, node.lineno)
            self.assertIsInstance(node, STATEMENTS, where)
            if isinstance(node, ast.Expr):
                docstring = node is TREES[path].body[0]
                self.assertTrue(docstring or isinstance(node.value, ast.Call), where)
            if isinstance(node, ast.Assign):
                self.assertEqual(len(node.targets), 1, where)
                self.assertNotIsInstance(node.targets[0], (ast.Tuple, ast.List), where)
            if isinstance(node, (ast.For, ast.While)):
                self.assertEqual(node.orelse, [], where)
            if isinstance(node, ast.Try):
                self.assertEqual(node.finalbody, [], where)
            if isinstance(node, ast.Raise):
                self.assertIsInstance(node.exc, ast.Call, where)

    def test_functions(self):
        for path, node in nodes(ast.FunctionDef):
            args = node.args
            self.assertFalse(args.vararg or args.kwarg or args.kwonlyargs or args.posonlyargs, (path, node.name))
            self.assertFalse(node.decorator_list or node.returns, (path, node.name))
        for path, node in nodes(ast.arg):
            self.assertIsNone(node.annotation, path)

    def test_classes(self):
        for path, node in nodes(ast.ClassDef):
            self.assertIn(node, TREES[path].body)
            self.assertLessEqual(len(node.bases), 1, node.name)
            self.assertFalse(node.keywords or node.decorator_list, node.name)
            names = [part.name for part in node.body if isinstance(part, ast.FunctionDef)]
            self.assertEqual(len(names), len(set(names)), node.name)
            for part in node.body:
                self.assertIsInstance(part, (ast.FunctionDef, ast.Pass), node.name)

    def test_handlers_name_own_errors(self):
        own = [node.name for path, node in nodes(ast.ClassDef)]
        for path, node in nodes(ast.ExceptHandler):
            self.assertIsInstance(node.type, (ast.Name, ast.Tuple), path)
            for part in ast.walk(node.type):
                if isinstance(part, ast.Name):
                    self.assertIn(part.id, own + ["KeyError", "ZeroDivisionError", "StopIteration"], path)


class ExpressionsTest(unittest.TestCase):
    def test_expressions(self):
        for path, node in nodes(ast.expr):
            where = (path, node.lineno)
            self.assertIsInstance(node, EXPRESSIONS, where)
            if isinstance(node, ast.Constant):
                self.assertIsInstance(node.value, (int, str, bool, type(None)), where)
                self.assertNotIn("%", str(node.value), where)
            if isinstance(node, ast.BinOp):
                self.assertNotIsInstance(node.op, (ast.Div, ast.Pow, ast.MatMult), where)
            if isinstance(node, ast.ListComp):
                self.assertEqual(len(node.generators), 1, where)
                self.assertLessEqual(len(node.generators[0].ifs), 1, where)
            if isinstance(node, ast.FormattedValue):
                self.assertIsInstance(node.value, ast.Name, where)
                self.assertIsNone(node.format_spec, where)

    def test_is_stands_beside_none_and_truths(self):
        for path, node in nodes(ast.Compare):
            for op, side in zip(node.ops, node.comparators):
                if isinstance(op, (ast.Is, ast.IsNot)):
                    self.assertIsInstance(side, ast.Constant, (path, node.lineno))
                    self.assertIn(side.value, (None, True, False), (path, node.lineno))

    def test_names_of_pythons_own(self):
        for path, tree in TREES.items():
            own = top_names(tree) + local_names(tree)
            for node in ast.walk(tree):
                if isinstance(node, ast.Name):
                    self.assertIn(node.id, own + OWN_OF_PYTHON, (path, node.lineno))

    def test_names_that_are_bound(self):
        for path, tree in TREES.items():
            classes = [node.name for node in tree.body if isinstance(node, ast.ClassDef)]
            imports = [alias.name for node in tree.body if isinstance(node, ast.ImportFrom) for alias in node.names]
            for name in local_names(tree):
                self.assertNotIn(name, classes + imports + dir(builtins), path)
                self.assertTrue(re.fullmatch(r"[A-Za-z][A-Za-z0-9_]*", name), path)
            for name in top_names(tree):
                self.assertTrue(re.fullmatch(r"[A-Za-z][A-Za-z0-9_]*", name), path)
                self.assertNotIn(name, dir(builtins) + BARRED_NAMES, path)

    def test_methods_and_values(self):
        self.assertEqual(methods() & values(), set())
        for name in methods() - set(DOUBLE_UNDERSCORES):
            self.assertTrue(re.fullmatch(r"[A-Za-z][A-Za-z0-9_]*", name), name)
            self.assertFalse(name in NAMES_OF_VALUES and name not in FREE_METHODS, name)
        for name in values():
            self.assertTrue(re.fullmatch(r"[A-Za-z][A-Za-z0-9_]*", name), name)
            self.assertFalse(name in NAMES_OF_VALUES | {"args"} and name not in FREE_VALUES, name)
        known = methods() | values() | set(METHODS_OF_PYTHON + DOUBLE_UNDERSCORES)
        for path, node in nodes(ast.Attribute):
            self.assertNotIn(node.attr, BARRED_NAMES, path)
            self.assertIn(node.attr, known, path)

    def test_what_is_walked_at_once(self):
        kept = []
        for path, node in nodes(ast.Assign, ast.Return):
            call = node.value
            if isinstance(call, ast.Call) and isinstance(call.func, ast.Name):
                kept.append(call.func.id)
            if isinstance(call, ast.Call) and isinstance(call.func, ast.Attribute):
                kept.append(call.func.attr)
        self.assertFalse({"zip", "enumerate", "reversed", "range", "items", "keys", "values", "set"} & set(kept))

    def test_keywords(self):
        allowed = {"sorted": ("key", "reverse"), "min": ("key", "default"), "max": ("key", "default"), "sum": ("start",),
                   "enumerate": ("start",), "zip": ("strict",)}
        for path, node in nodes(ast.Call):
            for keyword in node.keywords:
                self.assertIsInstance(node.func, ast.Name, (path, node.lineno))
                self.assertIn(keyword.arg, allowed.get(node.func.id, ()), (path, node.lineno))

    def test_no_loop_changes_what_it_walks(self):
        for path, node in nodes(ast.For):
            walked = [ast.unparse(part) for part in walked_by(node.iter)]
            for part in [inner for statement in node.body for inner in ast.walk(statement)]:
                if isinstance(part, ast.Call) and isinstance(part.func, ast.Attribute) and part.func.attr in CHANGES:
                    self.assertNotIn(ast.unparse(part.func.value), walked, (path, node.lineno))
                if isinstance(part, (ast.Subscript, ast.Name, ast.Attribute)) and isinstance(part.ctx, ast.Store):
                    changed = part.value if isinstance(part, ast.Subscript) else part
                    self.assertNotIn(ast.unparse(changed), walked, (path, node.lineno))

    def test_what_stands_at_a_files_top_is_only_read(self):
        for path, tree in TREES.items():
            kept = [node.targets[0].id for node in tree.body
                    if isinstance(node, ast.Assign) and isinstance(node.value, (ast.List, ast.Dict))]
            for node in tree.body:
                if isinstance(node, ast.Assign) and isinstance(node.value, (ast.List, ast.Dict)):
                    inner = [part for part in ast.walk(node.value) if isinstance(part, (ast.List, ast.Dict))]
                    self.assertEqual(inner, [node.value], path)
            reads = [part.value for part in ast.walk(tree) if isinstance(part, ast.Subscript)]
            reads += [part.value for part in ast.walk(tree) if isinstance(part, ast.Attribute) and part.attr == "get"]
            for part in ast.walk(tree):
                if isinstance(part, ast.Name) and part.id in kept and isinstance(part.ctx, ast.Load):
                    self.assertIn(part, reads, (path, part.lineno))


if __name__ == "__main__":
    unittest.main()
