"""The rules of the language that a look at the source can tell."""

import ast
import builtins
import io
import pathlib
import tokenize
import unittest

PACKAGE = pathlib.Path(__file__).resolve().parent.parent / "roundowned"
BUILTINS = set("""len range enumerate zip min max sum abs sorted reversed int str bool bytes list tuple dict set
isinstance ord repr any all divmod ValueError KeyError""".split())
METHODS = set("""append clear copy count endswith extend find get index insert isalnum isalpha isdigit islower isspace
isupper items join keys ljust lower lstrip partition pop remove replace reverse rfind rjust rpartition rsplit rstrip
setdefault split splitlines startswith strip update upper values zfill bit_length __init__""".split())
LIBRARY = {"math": {"gcd", "lcm", "factorial"}, "itertools": {"permutations"}}
WORDS = set("""type typing typing_extensions enum Enum IntEnum StrEnum Flag IntFlag Generic Protocol ABC ABCMeta
namedtuple NamedTuple TypedDict TYPE_CHECKING abstractmethod dataclass overload contextmanager""".split())
BARRED = WORDS | set("""register mro elements open input law version_info
with_traceback add_note breakpoint compile dir eval exec exit gc globals help id locals os quit super vars""".split())
NODES = """Global AsyncFunctionDef TryStar ExceptHandler With Match Yield YieldFrom GeneratorExp Await NamedExpr Starred Div Nonlocal
AnnAssign Assert JoinedStr MatMult""".split()


def sources():
    return [(path.name, path.read_text(encoding="utf-8")) for path in sorted(PACKAGE.glob("*.py"))]


class Language(unittest.TestCase):
    def test_the_folder_holds_plain_files_alone(self):
        for path in PACKAGE.iterdir():
            self.assertTrue(path.suffix == ".py" or path.name == "__pycache__", path)
            self.assertEqual(path.name, path.name.lower())

    def test_sizes_and_characters(self):
        for name, text in sources():
            lines = text.split("\n")
            self.assertLessEqual(len(lines), 399, name)
            self.assertTrue(text.endswith("\n"), name)
            for line in lines:
                self.assertLessEqual(len(line), 120, (name, line))
                self.assertEqual(line, line.rstrip(), name)
                self.assertTrue(all(" " <= sign <= "~" for sign in line), (name, line))
            for node in ast.walk(ast.parse(text)):
                if isinstance(node, ast.FunctionDef):
                    self.assertLessEqual(node.end_lineno - node.lineno, 39, (name, node.name))
                    self.assertEqual(node.decorator_list, [])

    def test_imports(self):
        modules = {path.stem for path in PACKAGE.glob("*.py")}
        for name, text in sources():
            for node in ast.walk(ast.parse(text)):
                self.assertNotIsInstance(node, ast.Import, name)
                if isinstance(node, ast.ImportFrom):
                    self.assertEqual(node.level, 0)
                    self.assertTrue(all(one.asname is None for one in node.names))
                    if node.module in LIBRARY:
                        self.assertLessEqual({one.name for one in node.names}, LIBRARY[node.module])
                    else:
                        head, _, tail = node.module.partition(".")
                        self.assertEqual(head, "roundowned")
                        self.assertIn(tail, modules)
                        tree = ast.parse((PACKAGE / f"{tail}.py").read_text())
                        self.assertLessEqual({one.name for one in node.names}, defined(tree))

    def test_no_two_files_import_from_each_other(self):
        needs = {name[:-3]: {node.module.partition(".")[2] for node in ast.walk(ast.parse(text))
                             if isinstance(node, ast.ImportFrom) and node.module.startswith("roundowned")}
                 for name, text in sources()}
        while needs:
            free = [name for name in needs if not needs[name] & set(needs)]
            self.assertTrue(free, needs)
            for name in free:
                del needs[name]

    def test_modules_hold_definitions_alone(self):
        for name, text in sources():
            for node in ast.parse(text).body:
                plain = isinstance(node, ast.Assign) and is_plain(node.value)
                doc = isinstance(node, ast.Expr) and isinstance(node.value, ast.Constant)
                self.assertTrue(plain or doc or isinstance(node, (ast.ImportFrom, ast.FunctionDef, ast.ClassDef)), name)

    def test_no_barred_statements(self):
        barred = tuple(getattr(ast, name) for name in NODES if hasattr(ast, name))
        for name, text in sources():
            for node in ast.walk(ast.parse(text)):
                self.assertNotIsInstance(node, barred, (name, getattr(node, "lineno", 0)))
                if isinstance(node, ast.Constant):
                    self.assertNotIsInstance(node.value, (float, complex))
                if isinstance(node, ast.Delete):
                    self.assertTrue(all(isinstance(one, ast.Subscript) for one in node.targets), (name, node.lineno))

    def test_what_is_put_back_at_last(self):
        for name, text in sources():
            for node in ast.walk(ast.parse(text)):
                for row in node.finalbody if isinstance(node, ast.Try) else []:
                    self.assertIsInstance(row, ast.Assign, name)
                    self.assertIsInstance(row.value, ast.Name, name)
                    self.assertIsInstance(row.targets[0], ast.Attribute, name)

    def test_no_name_is_a_method_and_an_attribute(self):
        methods, attributes = set(), set()
        for name, text in sources():
            for node in ast.walk(ast.parse(text)):
                if isinstance(node, ast.ClassDef):
                    own = [one.name for one in node.body if isinstance(one, ast.FunctionDef)]
                    self.assertEqual(len(own), len(set(own)))
                    methods.update(own)
                if isinstance(node, ast.Attribute) and isinstance(node.ctx, ast.Store):
                    attributes.add(node.attr)
        self.assertFalse(methods & attributes)
        for name, text in sources():
            for node in ast.walk(ast.parse(text)):
                if isinstance(node, ast.Attribute):
                    self.assertIn(node.attr, methods | attributes | METHODS, (name, node.lineno))

    def test_names(self):
        own = set()
        for name, text in sources():
            for node in ast.walk(ast.parse(text)):
                if isinstance(node, ast.ClassDef):
                    own |= {one.name for one in node.body if isinstance(one, ast.FunctionDef)}
        for name, text in sources():
            tree = ast.parse(text)
            bound = bindings(tree)
            self.assertFalse(bound & set(dir(builtins)), name)
            for node in ast.walk(tree):
                if isinstance(node, ast.Name) and hasattr(builtins, node.id):
                    self.assertIn(node.id, BUILTINS, (name, node.lineno))
                if isinstance(node, ast.Call) and isinstance(node.func, ast.Attribute):
                    self.assertIn(node.func.attr, METHODS | own, (name, node.lineno))

    def test_no_local_name_is_an_import_or_a_class(self):
        for name, text in sources():
            tree = ast.parse(text)
            outer = {one.name for node in tree.body if isinstance(node, ast.ImportFrom) for one in node.names}
            outer |= {node.name for node in tree.body if isinstance(node, ast.ClassDef)}
            for node in ast.walk(tree):
                if isinstance(node, ast.FunctionDef):
                    inner = bindings(node) - {node.name}
                    self.assertFalse(inner & outer, (name, node.name, inner & outer))

    def test_what_is_iterated_at_once(self):
        takers = {"list", "tuple", "dict", "sorted", "sum", "any", "all", "enumerate", "zip", "min", "max",
                  "permutations"}
        for name, text in sources():
            tree = ast.parse(text)
            fits = set()
            for node in ast.walk(tree):
                if isinstance(node, (ast.For, ast.comprehension)):
                    fits.add(node.iter)
                if isinstance(node, ast.Call) and isinstance(node.func, ast.Name) and node.func.id in takers:
                    fits.update(node.args[:1])
            for node in ast.walk(tree):
                if isinstance(node, ast.Call):
                    called = node.func.id if isinstance(node.func, ast.Name) else node.func.attr
                    if called in ("range", "zip", "enumerate", "reversed", "items", "keys", "values", "permutations"):
                        self.assertIn(node, fits, (name, node.lineno))

    def test_sets_stand_in_sorted_or_len(self):
        for name, text in sources():
            tree = ast.parse(text)
            calls = [node for node in ast.walk(tree) if isinstance(node, ast.Call) and isinstance(node.func, ast.Name)]
            inside = {one for node in calls if node.func.id in ("sorted", "len") for one in node.args[:1]}
            for node in ast.walk(tree):
                self.assertNotIsInstance(node, (ast.Set, ast.SetComp), name)
            for node in calls:
                if node.func.id == "set":
                    self.assertIn(node, inside, (name, node.lineno))

    def test_barred_words(self):
        for name, text in sources():
            for token in tokenize.generate_tokens(io.StringIO(text).readline):
                if token.type == tokenize.NAME:
                    self.assertNotIn(token.string, BARRED, (name, token.start))
                if token.type == tokenize.STRING and not token.string.startswith('"""'):
                    self.assertFalse(set(token.string.strip('"').split()) & WORDS, (name, token.start))
                    self.assertNotIn("%", token.string)


def is_plain(node):
    """Whether a value at module level is one of those that may stand there."""
    if isinstance(node, ast.Dict):
        return all(isinstance(key, ast.Constant) for key in node.keys) and all(
            isinstance(value, ast.Name) or is_plain(value) and not isinstance(value, ast.Dict) for value in node.values)
    if isinstance(node, ast.Tuple):
        return all(is_plain(one) and not isinstance(one, ast.Dict) for one in node.elts)
    return isinstance(node, ast.Constant)


def defined(tree):
    names = {node.name for node in tree.body if isinstance(node, (ast.FunctionDef, ast.ClassDef))}
    return names | {one.id for node in tree.body if isinstance(node, ast.Assign) for one in node.targets}


def bindings(tree):
    names = set()
    for node in ast.walk(tree):
        if isinstance(node, ast.arg):
            names.add(node.arg)
        if isinstance(node, ast.Name) and isinstance(node.ctx, ast.Store):
            names.add(node.id)
        if isinstance(node, (ast.FunctionDef, ast.ClassDef)) and not node.name.startswith("__"):
            names.add(node.name)
    return names


if __name__ == "__main__":
    unittest.main()
