"""The files of the package keep to the rules of the language that a program can check."""

import ast
import builtins
import pathlib
import re
import unittest

PACKAGE = pathlib.Path(__file__).resolve().parent.parent / "speciesmill"
ALLOWED_BUILTINS = set(
    "len range enumerate zip min max sum abs sorted reversed int str bool bytes list tuple dict set frozenset "
    "isinstance ord repr any all divmod pow iter next map super Exception ValueError TypeError KeyError "
    "IndexError LookupError ZeroDivisionError ArithmeticError OverflowError RuntimeError NotImplementedError "
    "AttributeError StopIteration NotImplemented True False None".split()
)
ALLOWED_METHODS = set(
    "append clear copy count endswith extend find get index insert isalnum isalpha isdigit islower isspace "
    "isupper items join keys ljust lower lstrip partition pop remove replace reverse rfind rjust rpartition "
    "rsplit rstrip setdefault split splitlines startswith strip update upper values zfill bit_length title "
    "capitalize swapcase casefold center expandtabs removeprefix removesuffix rindex isascii isdecimal "
    "isnumeric istitle isidentifier isprintable translate add discard sort format __init__".split()
)
LIBRARY = {
    "heapq": {"heappush", "heappop", "heapify", "heapreplace", "heappushpop"},
    "math": {"gcd", "lcm", "isqrt", "comb", "perm", "factorial"},
    "itertools": {"product", "combinations", "permutations", "chain", "accumulate", "pairwise", "islice", "zip_longest"},
    "collections": {"defaultdict"},
}
BARRED_NAMES = set(
    "register mro elements open input law version_info with_traceback add_note attrgetter breakpoint builtins "
    "compile copyright credits delattr dir eval exec exit gc globals help id importlib license locals "
    "methodcaller os quit setattr type vars sys __name__".split()
)
BARRED_WORDS = set(
    "typing typing_extensions enum Enum IntEnum StrEnum Flag IntFlag Generic Protocol ABC ABCMeta namedtuple "
    "NamedTuple TypedDict TYPE_CHECKING abstractmethod".split()
)
BARRED_NODES = (
    ast.Global, ast.AsyncFunctionDef, ast.AsyncFor, ast.AsyncWith, ast.Await, ast.Import, ast.Div, ast.MatMult,
)
MODULE_LEVEL = (ast.ImportFrom, ast.FunctionDef, ast.ClassDef, ast.Assign)
BUILTIN_NAMES = set(dir(builtins))
BUILTIN_METHODS = set().union(*[dir(kind) for kind in (str, bytes, int, list, tuple, dict, set)])


def files():
    return sorted(PACKAGE.rglob("*.py"))


def bound_names(tree):
    """Every name that the code gives a meaning."""
    for node in ast.walk(tree):
        if isinstance(node, (ast.FunctionDef, ast.ClassDef)):
            yield node.name, node.lineno
        elif isinstance(node, ast.arg):
            yield node.arg, node.lineno
        elif isinstance(node, ast.Name) and not isinstance(node.ctx, ast.Load):
            yield node.id, node.lineno


def own_methods():
    names = set()
    for path in files():
        for node in ast.walk(ast.parse(path.read_text())):
            if isinstance(node, ast.ClassDef):
                names.update(part.name for part in node.body if isinstance(part, ast.FunctionDef))
    return names


def imports_of(path):
    for node in ast.parse(path.read_text()).body:
        if isinstance(node, ast.ImportFrom):
            yield node


class TheLanguage(unittest.TestCase):
    def each_tree(self):
        for path in files():
            yield path, ast.parse(path.read_text())

    def test_the_folder_holds_only_python_files_with_plain_names(self):
        for path in PACKAGE.rglob("*"):
            if path.is_file() and "__pycache__" not in path.parts:
                self.assertRegex(path.name, r"^[a-z0-9_]+\.py$")

    def test_sizes_and_characters(self):
        for path in files():
            text = path.read_bytes().decode("ascii")
            lines = text.split("\n")
            self.assertLessEqual(len(lines) - 1, 399, path.name)
            self.assertTrue(all(len(line) <= 120 for line in lines), path.name)
            self.assertTrue(all(character == "\n" or " " <= character <= "~" for character in text), path.name)
            for node in ast.walk(ast.parse(text)):
                if isinstance(node, ast.FunctionDef):
                    self.assertLessEqual(node.end_lineno - node.lineno + 1, 40, (path.name, node.name))

    def test_statements_at_module_level(self):
        for path, tree in self.each_tree():
            for at, node in enumerate(tree.body):
                docstring = at == 0 and isinstance(node, ast.Expr) and isinstance(node.value, ast.Constant)
                self.assertTrue(docstring or isinstance(node, MODULE_LEVEL), (path.name, node.lineno))

    def test_no_barred_statement_or_sign(self):
        for path, tree in self.each_tree():
            for node in ast.walk(tree):
                self.assertNotIsInstance(node, BARRED_NODES, (path.name, getattr(node, "lineno", 0)))
                if isinstance(node, (ast.FunctionDef, ast.ClassDef)):
                    self.assertEqual(node.decorator_list, [], (path.name, node.lineno))

    def test_imports(self):
        for path in files():
            for node in imports_of(path):
                names = {name.name for name in node.names}
                self.assertEqual(node.level, 0)
                self.assertTrue(all(name.asname is None for name in node.names))
                if node.module in LIBRARY:
                    self.assertLessEqual(names, LIBRARY[node.module])
                    continue
                self.assertRegex(node.module, r"^speciesmill\.[a-z]+$")
                source = ast.parse((PACKAGE.parent / (node.module.replace(".", "/") + ".py")).read_text())
                defined = {name for name, _ in bound_names(source)}
                self.assertLessEqual(names, defined, (path.name, node.lineno))

    def test_no_round_of_imports(self):
        imports = {path.stem: {node.module.split(".")[-1] for node in imports_of(path)} for path in files()}
        while imports:
            free = [name for name in imports if not any(other in imports for other in imports[name])]
            self.assertTrue(free, imports)
            for name in free:
                del imports[name]

    def test_names(self):
        for path, tree in self.each_tree():
            imported = {name.name for node in imports_of(path) for name in node.names}
            methods = own_methods()
            for name, line in bound_names(tree):
                where = (path.name, line, name)
                self.assertRegex(name, r"^(_?[A-Za-z][A-Za-z0-9_]*|_|__init__)$", where)
                self.assertNotIn(name, BARRED_NAMES, where)
                self.assertNotIn(name, imported, where)
                if name not in methods:
                    self.assertNotIn(name, BUILTIN_NAMES, where)

    def test_builtins_and_methods(self):
        methods = own_methods()
        for path, tree in self.each_tree():
            for node in ast.walk(tree):
                where = (path.name, getattr(node, "lineno", 0))
                if isinstance(node, ast.Name) and node.id in BUILTIN_NAMES:
                    self.assertIn(node.id, ALLOWED_BUILTINS, where)
                if isinstance(node, ast.Attribute) and node.attr in BUILTIN_METHODS - methods:
                    self.assertIn(node.attr, ALLOWED_METHODS, where)

    def test_strings_and_numbers(self):
        for path, tree in self.each_tree():
            for node in ast.walk(tree):
                if isinstance(node, ast.Constant):
                    self.assertNotIsInstance(node.value, (float, complex), (path.name, node.lineno))
                    if isinstance(node.value, str):
                        self.assertNotIn("%", node.value, (path.name, node.lineno))

    def test_barred_words(self):
        for path, tree in self.each_tree():
            words = set()
            for node in ast.walk(tree):
                words.update(str(value) for _, value in ast.iter_fields(node) if isinstance(value, str))
            found = {word for text in words for word in re.findall(r"[A-Za-z_]+", text) if "\n" not in text}
            self.assertEqual(found & BARRED_WORDS, set(), path.name)

    def test_no_loop_over_a_set(self):
        for path, tree in self.each_tree():
            for node in ast.walk(tree):
                if isinstance(node, (ast.For, ast.comprehension)):
                    self.assertNotIsInstance(node.iter, (ast.Set, ast.SetComp), path.name)
                    if isinstance(node.iter, ast.Call) and isinstance(node.iter.func, ast.Name):
                        self.assertNotIn(node.iter.func.id, ("set", "frozenset"), path.name)

    def test_is_stands_beside_none_true_and_false_only(self):
        for path, tree in self.each_tree():
            for node in ast.walk(tree):
                if isinstance(node, ast.Compare) and any(isinstance(op, (ast.Is, ast.IsNot)) for op in node.ops):
                    self.assertIsInstance(node.comparators[0], ast.Constant, (path.name, node.lineno))


if __name__ == "__main__":
    unittest.main()
