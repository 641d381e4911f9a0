"""Rules of the language that can be read off the files of the package."""

import ast
import builtins
import itertools
import re
import unittest
from pathlib import Path

PACKAGE = Path(__file__).resolve().parent.parent / "roundminutes"
FILES = sorted(PACKAGE.rglob("*.py"))
LIBRARY = ["heapq", "math", "itertools", "collections", "__future__"]

# L8, without those that only __main__.py may use.
BUILTINS = """len range enumerate zip min max sum abs sorted reversed int str bool list tuple dict set isinstance ord
    repr any all divmod iter property classmethod staticmethod super ValueError""".split()

# L25, those that the package may call on strings, lists and dicts.
METHODS = """append clear copy count endswith extend find get index insert isalnum isalpha isdigit islower isspace
    isupper items join keys ljust lower lstrip partition pop remove replace reverse rfind rjust rpartition rsplit rstrip
    setdefault split splitlines startswith strip update upper values zfill bit_length""".split()

# L17
WORDS = """type typing typing_extensions enum Enum IntEnum StrEnum Flag IntFlag Generic Protocol ABC ABCMeta namedtuple
    NamedTuple TypedDict TYPE_CHECKING abstractmethod""".split()
PARTS = ["dataclass", "overload", "contextmanager", "(type)", "Meta", "metaclass="]

OPERATORS = re.compile("__(eq|ne|lt|le|gt|ge|add|sub|mul|rmul|floordiv|or|and|neg|abs|lshift|rshift|contains"
                       "|getitem)__")


def nodes(path, *kinds):
    return [node for node in ast.walk(ast.parse(path.read_text())) if isinstance(node, kinds)]


class LanguageTest(unittest.TestCase):

    def test_folder_holds_modules_only(self):
        others = [path for path in PACKAGE.rglob("*")
                  if path.is_file() and path.suffix != ".py" and path.parent.name != "__pycache__"]
        self.assertEqual(others, [])
        self.assertIn(PACKAGE / "__init__.py", FILES)

    def test_characters(self):
        for path in FILES:
            strange = [byte for byte in path.read_bytes() if not (32 <= byte <= 126 or byte == 10)]
            self.assertEqual(strange, [], path)

    def test_sizes(self):
        for path in FILES:
            lines = path.read_text().splitlines()
            self.assertLessEqual(len(lines), 399, path)
            self.assertLessEqual(max([len(line) for line in lines], default=0), 120, path)
            for node in nodes(path, ast.FunctionDef):
                self.assertLessEqual(node.end_lineno - node.lineno + 1, 40, (path, node.name))

    def test_imports(self):
        for path in FILES:
            self.assertEqual([node.lineno for node in nodes(path, ast.Import) if path.stem != "__main__"], [], path)
            for node in nodes(path, ast.ImportFrom):
                self.assertEqual(node.level, 0, (path, node.lineno))
                self.assertTrue(node.module in LIBRARY or node.module.startswith("roundminutes."), (path, node.module))

    def test_statements_and_values(self):
        barred = (ast.Global, ast.AsyncFunctionDef, ast.Await, ast.Div)
        for path in FILES:
            self.assertEqual(nodes(path, *barred), [], path)
            for node in nodes(path, ast.Constant):
                self.assertNotIsInstance(node.value, float, (path, node.lineno))
                if isinstance(node.value, str):
                    self.assertNotIn("%", node.value, (path, node.lineno))

    def test_builtins_and_methods(self):
        defined = {node.name for path in FILES for node in nodes(path, ast.FunctionDef)}
        for path in FILES:
            for node in nodes(path, ast.Name):
                if hasattr(builtins, node.id):
                    self.assertIn(node.id, BUILTINS, (path, node.lineno))
            for node in nodes(path, ast.Call):
                if isinstance(node.func, ast.Attribute):
                    self.assertIn(node.func.attr, [*METHODS, *defined], (path, node.lineno))

    def test_names_have_one_meaning(self):
        for path in FILES:
            taken = {*dir(builtins), *[node.name for node in nodes(path, ast.ClassDef)]}
            taken.update([alias.name for node in nodes(path, ast.ImportFrom) for alias in node.names])
            own = [node.arg for node in nodes(path, ast.arg)]
            own += [node.id for node in nodes(path, ast.Name) if isinstance(node.ctx, ast.Store)]
            self.assertEqual([name for name in own if name in taken], [], path)

    def test_methods_properties_and_attributes_have_different_names(self):
        # L5 and L18 let some of them have the same name in different classes, but not everywhere.
        methods, properties, attributes, values = set(), set(), set(), set()
        for path in FILES:
            for kind in nodes(path, ast.ClassDef):
                for node in kind.body:
                    if isinstance(node, ast.FunctionDef):
                        marks = [mark.id if isinstance(mark, ast.Name) else mark.attr for mark in node.decorator_list]
                        (properties if {"property", "setter"} & {*marks} else methods).add(node.name)
                    elif isinstance(node, ast.Assign):
                        values.add(node.targets[0].id)
            attributes |= {node.attr for node in nodes(path, ast.Attribute) if isinstance(node.ctx, ast.Store)}
        for first, second in itertools.combinations([methods, properties, attributes, values], 2):
            self.assertEqual(first & second, set())

    def test_lists_instead_of_generators(self):
        for path in FILES:
            self.assertEqual([node.lineno for node in nodes(path, ast.GeneratorExp)], [], path)

    def test_sets_are_not_kept(self):
        for path in FILES:
            self.assertEqual([node.lineno for node in nodes(path, ast.Set, ast.SetComp)], [], path)

    def test_is_only_with_none_true_and_false(self):
        for path in FILES:
            for node in nodes(path, ast.Compare):
                if isinstance(node.ops[0], (ast.Is, ast.IsNot)):
                    self.assertIsInstance(node.comparators[0], ast.Constant, (path, node.lineno))

    def test_operators_take_one_other_and_only_plain_numbers_grow(self):
        for path in FILES:
            for node in nodes(path, ast.FunctionDef):
                if OPERATORS.fullmatch(node.name):
                    self.assertLessEqual(len(node.args.args), 2, (path, node.name))
                    self.assertEqual((node.args.defaults, node.args.kwonlyargs, node.args.vararg), ([], [], None))
            for node in nodes(path, ast.AugAssign):
                self.assertIsInstance(node.value, ast.Constant, (path, node.lineno))

    def test_generators_have_names_of_their_own(self):
        functions = [node for path in FILES for node in nodes(path, ast.FunctionDef)]
        names = [node.name for node in functions]
        for node in functions:
            if any(isinstance(part, (ast.Yield, ast.YieldFrom)) for part in ast.walk(node)):
                self.assertEqual(names.count(node.name), 1, node.name)
                self.assertEqual(node.decorator_list, [], node.name)

    def test_iteration_is_one_statement(self):
        for path in FILES:
            for node in nodes(path, ast.FunctionDef):
                if node.name == "__iter__":
                    self.assertRegex(ast.unparse(node.body[0]), r"^return iter\(self\.\w+\)$")
                    self.assertEqual(len(node.body), 1)

    def test_lengths_are_taken_by_len(self):
        for path in FILES:
            for node in nodes(path, ast.FunctionDef):
                if node.name == "__len__":
                    self.assertRegex(ast.unparse(node), r"^def __len__\(self\):\n +return len\((?!range\().*\)$")

    def test_behind_a_star_stand_names_and_literals(self):
        plain = (ast.Name, ast.Constant, ast.List, ast.Tuple, ast.Dict)
        for path in FILES:
            for node in nodes(path, ast.Call):
                stars = [at for at, value in enumerate(node.args) if isinstance(value, ast.Starred)]
                if stars:
                    values = [value.value if isinstance(value, ast.Starred) else value for value in node.args[stars[0]:]]
                    values += [keyword.value for keyword in node.keywords]
                    self.assertTrue(all(isinstance(value, plain) for value in values), (path, node.lineno))

    def test_ends_of_blocks_only_give_attributes_values(self):
        rows = r"def __exit__\(self, kind, value, trace\):\n    (\w+) = self\.\w+\n    if kind is not None:"
        for path in FILES:
            for node in nodes(path, ast.FunctionDef):
                if node.name == "__exit__":
                    self.assertRegex(ast.unparse(node), rf"^{rows}(\n        \1\.\w+ = self\.\w+)+$")

    def test_names_that_no_one_may_have(self):
        # L12 and L17
        barred = re.compile("_(wall|pe_|dcw_|enum_|cm_|twin_re_|lay_|law_|stub_|sre).*|__.*(?<!__)"
                            "|_(cold|tuplegetter|outside|record|written_out|member_names)[0-9_]*"
                            "|register|mro|elements|open|input|law|version_info|with_traceback|add_note")
        for path in FILES:
            names = [node.id for node in nodes(path, ast.Name)] + [node.arg for node in nodes(path, ast.arg)]
            names += [node.attr for node in nodes(path, ast.Attribute)]
            names += [node.name for node in nodes(path, ast.FunctionDef, ast.ClassDef)]
            self.assertEqual([name for name in names if barred.fullmatch(name)], [], path)

    def test_kept_ranges_are_assigned_once(self):
        # L23, of names that keep a range, a zip, a view and so on.
        kinds = "range zip enumerate reversed items keys values map".split()
        for path in FILES:
            for function in nodes(path, ast.FunctionDef):
                for node in ast.walk(function):
                    if isinstance(node, ast.Assign) and isinstance(node.value, ast.Call):
                        called = node.value.func
                        name = called.id if isinstance(called, ast.Name) else getattr(called, "attr", "")
                        self.assertNotIn(name, kinds, (path, node.lineno))

    def test_barred_words(self):
        for path in FILES:
            text = path.read_text()
            self.assertEqual([part for part in PARTS if part in text], [], path)
            self.assertEqual([node.id for node in nodes(path, ast.Name) if node.id in WORDS], [], path)


if __name__ == "__main__":
    unittest.main()
