"""Looks through the package's files for what the language's rules bar; it sees many of the breaks, not all."""

import ast
import re
import unittest
from pathlib import Path

FOLDER = Path(__file__).resolve().parent.parent / "narrowadds"
FILES = {path.stem: path.read_bytes().decode("utf-8") for path in sorted(FOLDER.glob("*.py"))}
TREES = {name: ast.parse(text) for name, text in FILES.items()}
BUILTINS = set("""
    len range enumerate zip min max sum abs sorted reversed int str bool list tuple dict set isinstance ord repr any all
    divmod pow getattr hasattr setattr iter next map type property staticmethod classmethod super object
    Exception ValueError TypeError KeyError IndexError LookupError ZeroDivisionError ArithmeticError OverflowError
    RuntimeError NotImplementedError AttributeError StopIteration NotImplemented
""".split())
LIBRARY = {
    "math": {"gcd", "lcm", "isqrt", "comb", "perm", "factorial"},
    "heapq": {"heappush", "heappop", "heapify", "heapreplace", "heappushpop"},
    "itertools": {"product", "combinations", "permutations", "chain", "accumulate", "pairwise", "islice", "zip_longest"},
    "collections": {"defaultdict", "deque"},
}
METHODS = set("""
    append clear copy count endswith extend find get index insert isalnum isalpha isdigit islower isspace isupper items
    join keys ljust lower lstrip partition pop remove replace reverse rfind rjust rpartition rsplit rstrip setdefault
    split splitlines startswith strip update upper values zfill bit_length title capitalize swapcase casefold center
    expandtabs removeprefix removesuffix rindex isascii isdecimal isnumeric istitle isidentifier isprintable add discard
    sort popleft appendleft __init__
""".split())
BARRED_NODES = (
    ast.AsyncFunctionDef, ast.AsyncFor, ast.AsyncWith, ast.Await, ast.Import, ast.Div, ast.MatMult, ast.Global,
)
BARRED_NAMES = set("""
    mro elements open input law version_info with_traceback add_note attrgetter breakpoint builtins compile copyright
    credits delattr dir eval exec exit gc globals help id importlib license locals methodcaller os quit vars sys
""".split())


def own_names(tree):
    """Return the names that tree binds at its module level, each as often as it binds it."""
    found = []
    for row in tree.body:
        if isinstance(row, (ast.FunctionDef, ast.ClassDef)):
            found.append(row.name)
        elif isinstance(row, ast.Assign):
            found.extend([target.id for target in row.targets])
        elif isinstance(row, ast.ImportFrom):
            found.extend([alias.name for alias in row.names])
    return found


def imported(tree):
    """Return the files of the package that tree imports from."""
    return [row.module.partition(".")[2] for row in tree.body
            if isinstance(row, ast.ImportFrom) and row.module.startswith("narrowadds")]


class Files(unittest.TestCase):
    def test_the_folder_holds_just_sources(self):
        for path in FOLDER.iterdir():
            if path.name != "__pycache__":
                self.assertRegex(path.name, r"\A(__init__|[a-z][a-z0-9_]*)\.py\Z")

    def test_signs_and_lengths(self):
        for name, text in FILES.items():
            lines = text.split("\n")
            self.assertLessEqual(len(lines) - 1, 399, name)
            self.assertEqual(re.findall(r"[^ -~\n]", text), [], name)
            self.assertEqual([line for line in lines if len(line) > 120], [], name)

    def test_functions_are_short(self):
        for name, tree in TREES.items():
            for node in ast.walk(tree):
                if isinstance(node, ast.FunctionDef):
                    self.assertLessEqual(node.end_lineno - node.lineno + 1, 40, (name, node.name))


class Imports(unittest.TestCase):
    def test_they_stand_on_top_and_come_from_where_the_names_are_made(self):
        for name, tree in TREES.items():
            rows = [node for node in ast.walk(tree) if isinstance(node, ast.ImportFrom)]
            self.assertEqual(rows, [row for row in tree.body[1:] if isinstance(row, ast.ImportFrom)])
            for row in rows:
                self.assertEqual((row.level, [alias.asname for alias in row.names if alias.asname]), (0, []), name)
                names = {alias.name for alias in row.names}
                if row.module in LIBRARY:
                    self.assertLessEqual(names, LIBRARY[row.module], name)
                else:
                    package, _, file = row.module.partition(".")
                    self.assertEqual(package, "narrowadds", name)
                    made = [one for one in TREES[file].body if not isinstance(one, ast.ImportFrom)]
                    self.assertLessEqual(names, set(own_names(ast.Module(made, []))), name)

    def test_no_two_files_import_from_each_other(self):
        reached = {name: set(imported(tree)) for name, tree in TREES.items()}
        for _ in TREES:
            reached = {name: files.union(*[reached[file] for file in files]) for name, files in reached.items()}
        self.assertEqual([name for name in reached if name in reached[name]], [])

    def test_all_that_is_imported_is_used(self):
        for name, tree in TREES.items():
            used = {node.id for node in ast.walk(tree) if isinstance(node, ast.Name)}
            for row in tree.body:
                if isinstance(row, ast.ImportFrom):
                    self.assertLessEqual({alias.name for alias in row.names}, used, name)


class Names(unittest.TestCase):
    def test_each_is_bound_once_in_its_file(self):
        for name, tree in TREES.items():
            self.assertEqual(sorted(own_names(tree)), sorted(set(own_names(tree))), name)

    def test_locals_do_not_hide_other_names(self):
        for name, tree in TREES.items():
            hidden = BUILTINS | BARRED_NAMES | {
                own for row in tree.body for own in own_names(ast.Module([row], []))
                if isinstance(row, (ast.ClassDef, ast.ImportFrom))
            }
            told = [node.arg for node in ast.walk(tree) if isinstance(node, ast.arg)]
            told += [node.id for node in ast.walk(tree) if isinstance(node, ast.Name) and isinstance(node.ctx, ast.Store)]
            self.assertEqual([one for one in told if one in hidden], [], name)
            self.assertEqual([one for one in told if not re.fullmatch("_|_?[a-zA-Z][a-zA-Z0-9_]*", one)], [], name)

    def test_what_is_read_is_own_or_an_allowed_builtin(self):
        for name, tree in TREES.items():
            bound = set(own_names(tree)) | {node.arg for node in ast.walk(tree) if isinstance(node, ast.arg)}
            bound |= {node.id for node in ast.walk(tree) if isinstance(node, ast.Name) and isinstance(node.ctx, ast.Store)}
            bound |= {node.name for node in ast.walk(tree)
                      if isinstance(node, (ast.FunctionDef, ast.ExceptHandler)) and node.name}
            read = {node.id for node in ast.walk(tree) if isinstance(node, ast.Name) and isinstance(node.ctx, ast.Load)}
            self.assertLessEqual(read - bound, BUILTINS, name)
            self.assertEqual(read & {"_"}, set(), name)

    def test_methods_are_own_or_allowed(self):
        own = {node.name for tree in TREES.values() for node in ast.walk(tree) if isinstance(node, ast.FunctionDef)}
        for name, tree in TREES.items():
            for node in ast.walk(tree):
                if isinstance(node, ast.Call) and isinstance(node.func, ast.Attribute):
                    self.assertIn(node.func.attr, METHODS | own, name)


class Rows(unittest.TestCase):
    def test_no_barred_statement_or_sign(self):
        for name, tree in TREES.items():
            for node in ast.walk(tree):
                self.assertNotIsInstance(node, BARRED_NODES, (name, getattr(node, "lineno", 0)))

    def test_module_level(self):
        kinds = (ast.FunctionDef, ast.ClassDef, ast.Assign, ast.ImportFrom)
        for name, tree in TREES.items():
            self.assertIsNotNone(ast.get_docstring(tree), name)
            for row in tree.body[1:]:
                self.assertIsInstance(row, kinds, name)
                if isinstance(row, ast.Assign):
                    self.assertEqual(len(row.targets), 1, name)
                    self.assertEqual([part for part in ast.walk(row) if isinstance(part, ast.Call)], [], name)

    def test_constants(self):
        for name, tree in TREES.items():
            for node in ast.walk(tree):
                if isinstance(node, ast.Constant):
                    self.assertIsInstance(node.value, (int, str, type(None)), name)
                if isinstance(node, ast.BinOp) and isinstance(node.op, ast.Pow):
                    self.assertIsInstance(node.right, (ast.Constant, ast.Name, ast.BinOp), name)
                    if isinstance(node.right, ast.Constant):
                        self.assertLessEqual(node.right.value, 64, name)

    def test_no_mark_of_the_remainder_in_strings(self):
        for name, tree in TREES.items():
            docstrings = {ast.get_docstring(node, clean=False) for node in ast.walk(tree)
                          if isinstance(node, (ast.Module, ast.ClassDef, ast.FunctionDef))}
            for node in ast.walk(tree):
                if isinstance(node, ast.Constant) and isinstance(node.value, str) and node.value not in docstrings:
                    self.assertNotIn("%", node.value, name)

    def test_identity_is_asked_of_none_and_truths_alone(self):
        for name, tree in TREES.items():
            for node in ast.walk(tree):
                if isinstance(node, ast.Compare) and isinstance(node.ops[0], (ast.Is, ast.IsNot)):
                    self.assertIsInstance(node.comparators[0], ast.Constant, (name, node.lineno))

    def test_just_some_errors_of_python_are_caught(self):
        own = set(own_names(TREES["errors"])) | {"KeyError", "ZeroDivisionError"}
        for name, tree in TREES.items():
            for node in ast.walk(tree):
                if isinstance(node, ast.ExceptHandler):
                    caught = {part.id for part in ast.walk(node.type) if isinstance(part, ast.Name)} if node.type else {""}
                    self.assertLessEqual(caught, own, name)


class Classes(unittest.TestCase):
    def test_decorators_and_double_underscores(self):
        allowed = {"__init__", "__len__", "__contains__", "__getitem__", "__iter__", "__eq__", "__ne__"}
        for name, tree in TREES.items():
            methods = [node for part in tree.body if isinstance(part, ast.ClassDef) for node in part.body]
            for node in ast.walk(tree):
                if isinstance(node, ast.FunctionDef):
                    told = [decorator.id for decorator in node.decorator_list]
                    self.assertIn(told, [[], ["property"]] if node in methods else [[]], (name, node.name))
                    if node.name.startswith("__"):
                        self.assertIn(node, methods)
                        self.assertIn(node.name, allowed)

    def test_sizes_are_told_by_len_and_equality_by_the_class_first(self):
        for tree in TREES.values():
            for node in ast.walk(tree):
                if isinstance(node, ast.FunctionDef) and node.name == "__len__":
                    self.assertRegex(ast.unparse(node.body[-1]), r"\Areturn len\(.*\)\Z")
                if isinstance(node, ast.FunctionDef) and node.name == "__eq__":
                    self.assertRegex(ast.unparse(node.body[0]), r"\Aif not isinstance\(other, \w+\):\s+return False\Z")

    def test_no_name_is_a_method_and_an_attribute(self):
        for tree in TREES.values():
            for part in tree.body:
                if isinstance(part, ast.ClassDef):
                    methods = {node.name for node in part.body if isinstance(node, ast.FunctionDef)}
                    stored = {node.attr for node in ast.walk(part)
                              if isinstance(node, ast.Attribute) and isinstance(node.ctx, ast.Store)}
                    self.assertEqual(methods & stored, set())

    def test_no_generators_and_no_sets_that_are_stored(self):
        # The classes have __eq__, __len__ and a method add: lists are taken instead.
        for name, tree in TREES.items():
            for node in ast.walk(tree):
                self.assertNotIsInstance(node, (ast.GeneratorExp, ast.Yield, ast.YieldFrom, ast.Set, ast.SetComp), name)
                if isinstance(node, ast.Assign):
                    told = node.value.func if isinstance(node.value, ast.Call) else None
                    self.assertFalse(isinstance(told, ast.Name) and told.id == "set", name)

    def test_no_words_that_a_package_with_items_bars(self):
        for name, text in FILES.items():
            for word in ("(type)", "Meta", "metaclass="):
                self.assertNotIn(word, text, name)
            for node in ast.walk(TREES[name]):
                if isinstance(node, ast.Attribute):
                    self.assertNotEqual(node.attr, "keys", name)
