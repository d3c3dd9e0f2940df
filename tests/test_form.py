"""The form of the package: the names of the interface, and those rules of the language that can be counted."""

import ast
import importlib
import inspect
import pathlib
import re
import unittest

FOLDER = pathlib.Path(__file__).resolve().parent.parent / "gapstone"

# Each function of the interface with its arguments and defaults, as it is written there.
INTERFACE = {
    "parts": {
        "part": "(over, under=1)", "plus": "(one, other)", "less": "(one, other)", "times": "(one, other)",
        "over": "(one, other)", "below": "(one, other)", "total": "(row, *, start=(0, 1))", "part_text": "(one)",
        "read_part": "(text)",
    },
    "discs": {
        "is_disc": "(thing)", "disc": "(middle, bend)", "middle": "(disc)", "number": "(disc, place)",
        "look": "(one, other)", "touch": "(one, other)", "disc_text": "(disc)", "read_disc": "(text)",
    },
    "words": {
        "is_word": "(text)", "is_call": "(text)", "reduced": "(text)", "joined": "(one, other)", "undone": "(word)",
        "call_at": "(word, letter)", "turned": "(call, word)", "call_key": "(call)",
    },
    "dish": {"Dish": "(discs)"},
    "places": {
        "find": "(dish, place, *, most=200)", "paper": "(dish, place, *, most=200)", "paper_holds": "(dish, place, told)",
    },
    "stands": {"stands": "(dish, disc, *, most=200)", "stands_so": "(dish, disc, told)"},
    "sizes": {
        "up_to": "(dish, bound, *, most=300)", "all_up_to": "(dish, bound, rows)", "sized": "(dish, bend, *, most=300)",
    },
    "rests": {"lot": "(dish, by)", "rests": "(dish, by)", "lot_holds": "(dish, by, rows)"},
    "ways": {"way": "(dish, one, other)", "far": "(dish, one, other)"},
    "views": {
        "moved": "(dish, by)", "turned_by": "(dish, by)", "mirrored": "(dish)", "grown": "(dish, times_of)",
        "seen": "(dish, place, *, most=200)", "same": "(one, other, *, most=200)", "alike": "(one, other)",
    },
    "bench": {"Bench": "()"},
    "pages": {"page": "(bench)", "read_page": "(text)"},
    "desk": {"Desk": "(*, bench=None)"},
}
# Each class of the interface, but for the errors, with its methods.
METHODS = {
    ("dish", "Dish"): {
        "seats": "(self)", "bends": "(self)", "four": "(self, word)", "stone": "(self, call)", "led": "(self, word)",
        "root": "(self)", "touching": "(self, one, other)", "__eq__": "(self, other)", "__len__": "(self)",
        "__str__": "(self)", "__repr__": "(self)",
    },
    ("bench", "Bench"): {
        "do": "(self, deed)", "all_of": "(self, deeds)", "dish": "(self, name, discs)", "drop": "(self, name)",
        "lead": "(self, name, word)", "move": "(self, name, by)", "turn": "(self, name, by)",
        "grow": "(self, name, times_of)", "mirror": "(self, name)", "see": "(self, name, place, *, most=200)",
        "mark": "(self, name, call, number=1)", "watch": "(self, name, dish, place)", "let": "(self, name)",
        "undo": "(self)", "redo": "(self)", "names": "(self)", "watches": "(self)", "told": "(self, name)",
        "marks": "(self, name)", "load": "(self, name, word='')", "watched": "(self, name)",
        "found": "(self, name, *, most=200)", "reckoned": "(self)", "held": "(self)", "steps": "(self)", "twin": "(self)",
        "__eq__": "(self, other)", "__len__": "(self)",
    },
    ("desk", "Desk"): {"say": "(self, row)"},
}
WORTHS = {
    ("words", "LETTERS"): "abcd", ("words", "GREAT"): "ABCD", ("words", "MOST_WORD"): 40, ("places", "MOST_SWAPS"): 200,
    ("sizes", "MOST_LISTED"): 300, ("bench", "MOST_DISHES"): 6, ("bench", "MOST_MARKS"): 20, ("bench", "MOST_WATCHES"): 8,
}
BARRED = (
    "type typing typing_extensions enum Enum IntEnum StrEnum Flag IntFlag Generic Protocol ABC ABCMeta namedtuple "
    "NamedTuple TypedDict TYPE_CHECKING abstractmethod"
).split()
BUILTINS = (
    "len range enumerate zip min max sum abs sorted reversed int str bool list tuple dict set frozenset isinstance ord "
    "repr any all divmod iter next super property staticmethod classmethod Exception ValueError TypeError KeyError "
    "IndexError LookupError ZeroDivisionError ArithmeticError OverflowError RuntimeError NotImplementedError "
    "StopIteration NotImplemented"
).split()


def files():
    return sorted(FOLDER.glob("*.py"))


def bound(tree):
    """Each name that a file binds, in whatever way."""
    for node in ast.walk(tree):
        if isinstance(node, (ast.FunctionDef, ast.ClassDef)):
            yield node.name
        elif isinstance(node, ast.arg):
            yield node.arg
        elif isinstance(node, ast.Name) and not isinstance(node.ctx, ast.Load):
            yield node.id
        elif isinstance(node, ast.Attribute) and not isinstance(node.ctx, ast.Load):
            yield node.attr


class Interface(unittest.TestCase):
    def test_each_function_is_defined_in_its_file_with_its_arguments(self):
        for name, functions in INTERFACE.items():
            module = importlib.import_module("gapstone." + name)
            for function, arguments in functions.items():
                self.assertEqual(str(inspect.signature(getattr(module, function))), arguments, function)
                self.assertEqual(getattr(module, function).__module__, "gapstone." + name)

    def test_each_method_is_defined_in_its_class_itself(self):
        for (name, kind), methods in METHODS.items():
            own = vars(getattr(importlib.import_module("gapstone." + name), kind))
            for method, arguments in methods.items():
                self.assertEqual(str(inspect.signature(own[method])), arguments, method)

    def test_each_value_stands_under_its_name(self):
        for (name, value), worth in WORTHS.items():
            self.assertEqual(getattr(importlib.import_module("gapstone." + name), value), worth)


class Form(unittest.TestCase):
    def test_the_folder_has_nothing_but_its_files(self):
        others = [path.name for path in FOLDER.iterdir() if path.suffix != ".py" and path.name != "__pycache__"]
        self.assertEqual(others, [])
        for path in files():
            self.assertRegex(path.name, r"\A(__init__|__main__|[a-z][a-z0-9_]*)\.py\Z")

    def test_signs_and_sizes(self):
        for path in files():
            text = path.read_bytes().decode("ascii")
            self.assertEqual(re.findall(r"[^ -~\n]", text), [], path.name)
            self.assertLess(text.count("\n"), 400, path.name)
            self.assertLessEqual(max([len(row) for row in text.split("\n")]), 120, path.name)
            for node in ast.walk(ast.parse(text)):
                if isinstance(node, ast.FunctionDef):
                    self.assertLessEqual(node.end_lineno - node.lineno + 1, 40, node.name)

    def test_barred_words(self):
        for path in files():
            text = path.read_text()
            self.assertEqual([word for word in BARRED if re.search(rf"\b{word}\b", text)], [], path.name)
            self.assertEqual(re.findall("dataclass|overload|contextmanager", text), [], path.name)

    def test_imports_name_files_of_the_package(self):
        for path in files():
            tree = ast.parse(path.read_text())
            for node in ast.walk(tree):
                self.assertNotIsInstance(node, ast.Import, path.name)
                if isinstance(node, ast.ImportFrom):
                    self.assertIn(node, tree.body)
                    self.assertRegex(node.module, r"\Agapstone\.[a-z_]+\Z")
                    source = ast.parse((FOLDER / (node.module.split(".")[1] + ".py")).read_text())
                    defined = set(bound(ast.Module(source.body, [])))
                    self.assertLessEqual({name.name for name in node.names}, defined, path.name)

    def test_names(self):
        for path in files():
            tree = ast.parse(path.read_text())
            names = [name for name in bound(tree) if name not in ("__init__", "__eq__", "__len__", "__str__", "__repr__")]
            self.assertEqual([name for name in names if name.startswith("_")], [], path.name)
            self.assertEqual([name for name in names if name in BUILTINS], [], path.name)
            imported = {name.name for node in tree.body if isinstance(node, ast.ImportFrom) for name in node.names}
            classes = {node.name for node in tree.body if isinstance(node, ast.ClassDef)}
            held = [node.arg for node in ast.walk(tree) if isinstance(node, ast.arg)]
            held += [node.id for node in ast.walk(tree) if isinstance(node, ast.Name) and isinstance(node.ctx, ast.Store)]
            self.assertEqual([name for name in held if name in imported | classes], [], path.name)

    def test_only_what_the_language_has(self):
        outside = (ast.Global, ast.AsyncFunctionDef, ast.Await, ast.Div)
        for path in files():
            for node in ast.walk(ast.parse(path.read_text())):
                self.assertNotIsInstance(node, outside, path.name)
                if isinstance(node, ast.Constant):
                    self.assertNotIsInstance(node.value, (float, complex), path.name)
                if isinstance(node, ast.BinOp) and isinstance(node.op, ast.Pow):
                    self.assertIsInstance(node.right, ast.Constant, path.name)
                if isinstance(node, ast.Compare) and any([isinstance(sign, (ast.Is, ast.IsNot)) for sign in node.ops]):
                    self.assertIn(node.comparators[-1].value, (None, True, False), path.name)

    def test_no_name_is_a_method_and_an_attribute(self):
        methods, attributes = set(), set()
        for path in files():
            for node in ast.walk(ast.parse(path.read_text())):
                if isinstance(node, ast.ClassDef):
                    methods |= {part.name for part in node.body if isinstance(part, ast.FunctionDef)}
                elif isinstance(node, ast.Attribute) and isinstance(node.ctx, ast.Store):
                    attributes.add(node.attr)
        self.assertEqual(methods & attributes, set())

    def test_asking_methods_assign_nothing(self):
        for path in files():
            for node in ast.walk(ast.parse(path.read_text())):
                if isinstance(node, ast.FunctionDef) and node.name in ("__eq__", "__len__", "__str__", "__repr__"):
                    self.assertEqual([type(row) for row in node.body], [ast.Return], path.name)

    def test_tables_of_functions_are_called_by_names(self):
        for path in files():
            for node in ast.walk(ast.parse(path.read_text())):
                if isinstance(node, ast.Call):
                    self.assertIsInstance(node.func, (ast.Name, ast.Attribute), path.name)

    def test_raised_on_the_spot(self):
        for path in files():
            for node in ast.walk(ast.parse(path.read_text())):
                if isinstance(node, ast.Raise):
                    self.assertIsInstance(node.exc, ast.Call, path.name)
                    self.assertIsInstance(node.exc.func, ast.Name, path.name)

    def test_lists_instead_of_generators(self):
        # A class has an __eq__, so any, all and their kin take lists; and nothing is sorted in its place.
        for path in files():
            for node in ast.walk(ast.parse(path.read_text())):
                self.assertNotIsInstance(node, (ast.GeneratorExp, ast.Yield, ast.YieldFrom), path.name)
                if isinstance(node, ast.Attribute):
                    self.assertNotEqual(node.attr, "sort", path.name)

    def test_module_level(self):
        allowed = (ast.ImportFrom, ast.FunctionDef, ast.ClassDef, ast.Assign, ast.Expr)
        for path in files():
            tree = ast.parse(path.read_text())
            names = []
            for node in tree.body:
                self.assertIsInstance(node, allowed, path.name)
                if isinstance(node, ast.Assign):
                    self.assertEqual([type(target) for target in node.targets], [ast.Name], path.name)
                    names.append(node.targets[0].id)
                elif isinstance(node, ast.ImportFrom):
                    names += [name.name for name in node.names]
                elif isinstance(node, ast.Expr):
                    self.assertIsInstance(node.value.value, str, path.name)
                else:
                    names.append(node.name)
                    self.assertEqual(node.decorator_list, [], path.name)
            self.assertEqual(len(names), len(set(names)), path.name)

    def test_no_two_files_import_from_each_other(self):
        sources = {}
        for path in files():
            nodes = ast.parse(path.read_text()).body
            modules = [node.module for node in nodes if isinstance(node, ast.ImportFrom)]
            sources[path.stem] = {module.split(".")[1] for module in modules}
        while sources:
            free = [name for name, needed in sources.items() if not needed & set(sources)]
            self.assertNotEqual(free, [], sorted(sources))
            sources = {name: needed for name, needed in sources.items() if name not in free}


if __name__ == "__main__":
    unittest.main()
