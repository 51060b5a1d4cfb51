"""The rules of the language subset that a test can see; some are checked more narrowly than they are worded."""

import ast
import builtins
import pathlib
import re
import unittest

import crumbjar

FOLDER = pathlib.Path(crumbjar.__file__).parent
FILES = sorted(FOLDER.glob("*.py"))
LIBRARY = ("heapq", "math", "itertools", "collections")
BUILTINS = set(
    "len range enumerate zip min max sum abs sorted reversed int str bool bytes list tuple dict set isinstance ord "
    "repr any all divmod map property Exception ValueError TypeError KeyError IndexError LookupError ZeroDivisionError "
    "RuntimeError NotImplementedError NotImplemented".split()
)
METHODS = set(
    "append clear copy count endswith extend find get index insert isalnum isalpha isdigit islower isspace isupper "
    "items join keys ljust lower lstrip partition pop remove replace reverse rfind rjust rpartition rsplit rstrip "
    "setdefault split splitlines startswith strip update upper values zfill bit_length capitalize swapcase casefold "
    "removeprefix removesuffix rindex isascii add discard __init__".split()
)
STATEMENTS = (
    ast.FunctionDef, ast.ClassDef, ast.Return, ast.Delete, ast.Assign, ast.AugAssign, ast.For, ast.While, ast.If,
    ast.Raise, ast.Try, ast.Assert, ast.ImportFrom, ast.Expr, ast.Pass, ast.Break, ast.Continue, ast.Nonlocal,
)
BARRED_WORDS = (
    r"\b(type|typing|typing_extensions|enum|Enum|IntEnum|StrEnum|Flag|IntFlag|Generic|Protocol|ABC|ABCMeta|namedtuple|"
    r"NamedTuple|TypedDict|TYPE_CHECKING|abstractmethod|_wall|_WallAttr)\b|dataclass|overload|contextmanager"
)
BARRED_NAMES = set("register mro elements open input law version_info with_traceback add_note".split())


def tree_of(file):
    """The syntax tree of a file."""
    return ast.parse(file.read_text(encoding="ascii"))


def nodes(*kinds):
    """All pairs of a file and a node of these kinds."""
    return [(file.name, node) for file in FILES for node in ast.walk(tree_of(file)) if isinstance(node, kinds)]


def bound_names(tree):
    """The names that a file's module level binds by itself."""
    names = []
    for node in tree.body:
        if isinstance(node, (ast.FunctionDef, ast.ClassDef)):
            names.append(node.name)
        elif isinstance(node, ast.Assign):
            names.append(node.targets[0].id)
    return names


def is_docstring(node):
    return isinstance(node, ast.Expr) and isinstance(node.value, ast.Constant) and isinstance(node.value.value, str)


class FilesTest(unittest.TestCase):
    def test_plain_files(self):
        self.assertTrue(FILES)
        self.assertLessEqual(len(FILES), 100)
        for entry in FOLDER.iterdir():
            if entry.name != "__pycache__":
                self.assertRegex(entry.name, r"\A[a-z0-9_]+\.py\Z")

    def test_sizes_and_signs(self):
        for file in FILES:
            text = file.read_text(encoding="ascii")
            self.assertRegex(text, r"\A[ -~\n]*\Z", file.name)
            lines = text.splitlines()
            self.assertLessEqual(len(lines), 399, file.name)
            for line in lines:
                self.assertLessEqual(len(line), 120, (file.name, line))
        for name, node in nodes(ast.FunctionDef):
            self.assertLessEqual(node.end_lineno - node.lineno + 1, 40, (name, node.name))

    def test_words(self):
        for file in FILES:
            text = file.read_text(encoding="ascii")
            code = re.sub(r'"""(.|\n)*?"""|#.*', "", text)
            self.assertIsNone(re.search(BARRED_WORDS, code), file.name)
            self.assertIsNone(re.search(r"_wall|_WallAttr", text), file.name)


class ModuleLevelTest(unittest.TestCase):
    def test_only_plain_statements(self):
        for file in FILES:
            for node in tree_of(file).body:
                if isinstance(node, ast.Assign):
                    ast.literal_eval(node.value)
                    self.assertEqual([type(target) for target in node.targets], [ast.Name])
                else:
                    self.assertTrue(isinstance(node, (ast.ImportFrom, ast.FunctionDef, ast.ClassDef))
                                    or is_docstring(node), (file.name, node.lineno))

    def test_imports_name_the_file_that_defines(self):
        self.assertEqual(nodes(ast.Import), [])
        bound = {f"crumbjar.{file.stem}": bound_names(tree_of(file)) for file in FILES}
        for name, node in nodes(ast.ImportFrom):
            self.assertEqual(node.level, 0)
            if node.module in LIBRARY:
                continue
            for alias in node.names:
                self.assertIsNone(alias.asname, name)
                self.assertIn(alias.name, bound[node.module], name)

    def test_no_two_files_import_from_each_other(self):
        wanted = {file.stem: {node.module.rpartition(".")[2] for node in tree_of(file).body
                              if isinstance(node, ast.ImportFrom)} for file in FILES}
        left = dict(wanted)
        while left:
            free = [stem for stem in left if not wanted[stem] & set(left)]
            self.assertTrue(free, left)
            left = {stem: left[stem] for stem in left if stem not in free}

    def test_each_name_is_bound_once(self):
        for file in FILES:
            tree = tree_of(file)
            names = bound_names(tree)
            for node in tree.body:
                if isinstance(node, ast.ImportFrom):
                    names += [alias.name for alias in node.names]
            self.assertEqual(len(names), len(set(names)), file.name)


class CodeTest(unittest.TestCase):
    def test_statements(self):
        for name, node in nodes(ast.stmt):
            self.assertIsInstance(node, STATEMENTS, (name, node.lineno))
        for name, node in nodes(ast.ClassDef):
            self.assertEqual(node.decorator_list, [], name)
        for name, node in nodes(ast.FunctionDef):
            for decorator in node.decorator_list:
                self.assertEqual(decorator.id, "property", name)
                self.assertEqual([arg.arg for arg in node.args.args], ["self"], name)
                self.assertIsNone(next((part for part in ast.walk(node) if isinstance(part, ast.Call)), None), name)
        for name, node in nodes(ast.arg):
            self.assertIsNone(node.annotation, name)

    def test_expressions(self):
        barred = (ast.GeneratorExp, ast.Await, ast.YieldFrom, ast.Div, ast.MatMult, ast.Set, ast.SetComp, ast.NamedExpr)
        self.assertEqual(nodes(*barred), [])
        statements = [node for _, node in nodes(ast.Expr) if isinstance(node.value, ast.Yield)]
        self.assertEqual(len(nodes(ast.Yield)), len(statements))
        for name, node in nodes(ast.Constant):
            self.assertNotIsInstance(node.value, (float, complex, bytes), name)

    def test_strings(self):
        for name, node in nodes(ast.Constant):
            if isinstance(node.value, str):
                self.assertNotIn("%", node.value, name)
                self.assertNotRegex(node.value, r"\._\Z|\.__\Z|\A__(.|\n)*__\Z")
        for file in FILES:
            text = file.read_text(encoding="ascii")
            for node in ast.walk(ast.parse(text)):
                if isinstance(node, ast.JoinedStr):
                    self.assertNotIn("%", ast.get_source_segment(text, node), file.name)

    def test_generators(self):
        yielding = [node.name for _, node in nodes(ast.FunctionDef)
                    if any(isinstance(part, ast.Yield) for part in ast.walk(node))]
        functions = [node.name for _, node in nodes(ast.FunctionDef)]
        attributes = [node.attr for _, node in nodes(ast.Attribute)]
        for name in yielding:
            self.assertEqual(functions.count(name), 1)
            self.assertNotIn(name, attributes)
            self.assertNotIn(name, METHODS)

    def test_names(self):
        for file in FILES:
            tree = tree_of(file)
            imported = [alias.name for node in tree.body if isinstance(node, ast.ImportFrom) for alias in node.names]
            locals_ = [node.id for node in ast.walk(tree)
                       if isinstance(node, ast.Name) and not isinstance(node.ctx, ast.Load)]
            locals_ += [node.arg for node in ast.walk(tree) if isinstance(node, ast.arg)]
            for name in [name for name in locals_ if name != "_"] + bound_names(tree):
                self.assertRegex(name, r"\A_?[A-Za-z][A-Za-z0-9_]*\Z")
                self.assertFalse(hasattr(builtins, name), (file.name, name))
                self.assertNotIn(name, BARRED_NAMES)
            for name in locals_:
                self.assertNotIn(name, imported, file.name)

    def test_builtins(self):
        for name, node in nodes(ast.Name):
            if hasattr(builtins, node.id):
                self.assertIn(node.id, BUILTINS, name)

    def test_methods(self):
        own = {node.name for _, node in nodes(ast.FunctionDef)}
        for name, node in nodes(ast.Call):
            if isinstance(node.func, ast.Attribute):
                self.assertIn(node.func.attr, METHODS | own, (name, node.lineno))
                if node.func.attr in METHODS:
                    self.assertEqual(node.keywords, [], (name, node.lineno))

    def test_is_with_none_true_and_false(self):
        for name, node in nodes(ast.Compare):
            if isinstance(node.ops[0], (ast.Is, ast.IsNot)):
                self.assertIsInstance(node.comparators[0], ast.Constant, name)
                self.assertIn(node.comparators[0].value, (None, True, False))

    def test_handlers_name_own_errors(self):
        own = bound_names(tree_of(FOLDER / "errors.py")) + ["KeyError", "ZeroDivisionError"]
        for name, node in nodes(ast.ExceptHandler):
            caught = node.type.elts if isinstance(node.type, ast.Tuple) else [node.type]
            for kind in caught:
                self.assertIn(kind.id, own, name)

    def test_raises_create_their_error(self):
        for name, node in nodes(ast.Raise):
            if node.exc is not None:
                self.assertIsInstance(node.exc, ast.Call, name)


if __name__ == "__main__":
    unittest.main()
