"""Rules of ../shared/LANGUAGE.md that a program can see at once, for every file of the package."""

import ast
import builtins
import pathlib
import re
import unittest

PACKAGE = pathlib.Path(__file__).resolve().parent.parent / "rotatesafe"
FILES = sorted(path for path in PACKAGE.rglob("*") if "__pycache__" not in path.parts)
BUILTINS = set("""len range enumerate zip min max sum abs sorted reversed int str bool bytes list tuple dict set
    frozenset isinstance ord repr any all divmod iter next map super property classmethod staticmethod
    Exception ValueError TypeError KeyError IndexError LookupError ZeroDivisionError ArithmeticError OverflowError
    RuntimeError NotImplementedError AttributeError StopIteration NotImplemented""".split())
DUNDERS = {"__init__", "__eq__"}
BARRED_WORDS = """type typing typing_extensions enum Enum IntEnum StrEnum Flag IntFlag Generic Protocol ABC ABCMeta
    namedtuple NamedTuple TypedDict TYPE_CHECKING abstractmethod dataclass overload contextmanager _wall _WallAttr
    register mro elements open input law""".split()
ITERATING = {"list", "tuple", "dict", "sorted", "sum", "min", "max", "any", "all", "enumerate", "zip"}

# What DOC.md lists for each file: functions, and for each class its methods and properties.
FUNCTIONS = {
    "errors.py": "", "worlds.py": "", "drills.py": "",
    "exposure.py": "exposed exposure is_exposure needed",
    "plans.py": "is_sound first_fault plan_cost",
    "rotations.py": "is_enough is_knot rotation",
    "strengthening.py": "world_cost costs_without strengthened strengthenings best_strengthening",
    "texts.py": "world_text suspicions_text plan_text read_world read_suspicions read_plan"}
CLASSES = {
    "errors.py": {name: "" for name in ["RotateError", "BadWorld", "BadSuspicion", "BadUse", "BadSecret", "BadStep",
                                        "BadKnot", "NothingDone", "BadNumber", "BadText"]},
    "worlds.py": {"World": "__init__ of services secrets uses channel cost users __eq__"},
    "rotations.py": {"Rotation": "__init__ __eq__ shows"},
    "drills.py": {"Drill": "__init__ after steps is_lost is_done do undo accepted version known possible completion"}}
COMPREHENSIONS = (ast.ListComp, ast.SetComp, ast.DictComp)
TREES = [(path, ast.parse(path.read_text(encoding="utf-8"))) for path in FILES]


def nodes(kinds):
    return [(path.name, node) for path, tree in TREES for node in ast.walk(tree) if isinstance(node, kinds)]


def stored(node):
    """Return the names that are assigned anywhere inside a part of a file, parameters included."""
    names = {part.id for part in ast.walk(node) if isinstance(part, ast.Name) and isinstance(part.ctx, ast.Store)}
    return names | {part.arg for part in ast.walk(node) if isinstance(part, ast.arg)}


def outside_comprehensions(node):
    """Yield the parts of a function that are in no comprehension."""
    for part in ast.iter_child_nodes(node):
        if not isinstance(part, COMPREHENSIONS):
            yield part
            yield from outside_comprehensions(part)


class Interface(unittest.TestCase):
    def test_functions_are_defined_in_their_files(self):
        for name, words in FUNCTIONS.items():
            body = ast.parse((PACKAGE / name).read_text(encoding="utf-8")).body
            defined = {node.name for node in body if isinstance(node, ast.FunctionDef)}
            self.assertLessEqual(set(words.split()), defined, name)

    def test_methods_are_defined_in_their_classes(self):
        for name, classes in CLASSES.items():
            body = ast.parse((PACKAGE / name).read_text(encoding="utf-8")).body
            defined = {node.name: node for node in body if isinstance(node, ast.ClassDef)}
            self.assertLessEqual(set(classes), set(defined), name)
            for title, words in classes.items():
                methods = {node.name for node in defined[title].body if isinstance(node, ast.FunctionDef)}
                self.assertLessEqual(set(words.split()), methods, title)


class Form(unittest.TestCase):
    def test_words(self):
        for path in FILES:
            words = set(re.findall(r"[A-Za-z_]+", path.read_text(encoding="utf-8")))
            self.assertEqual(words & set(BARRED_WORDS), set(), path)

    def test_variables_do_not_hide_imports_and_classes(self):
        for path, tree in TREES:
            bound = {item.name for node in tree.body if isinstance(node, ast.ImportFrom) for item in node.names}
            bound |= {node.name for node in tree.body if isinstance(node, ast.ClassDef)}
            for node in tree.body:
                if not isinstance(node, ast.Assign):
                    self.assertEqual(stored(node) & bound, set(), path)

    def test_variables_of_inner_comprehensions(self):
        for name, function in nodes(ast.FunctionDef):
            outer = set()
            for part in outside_comprehensions(function):
                if isinstance(part, ast.Name) and isinstance(part.ctx, ast.Store):
                    outer.add(part.id)
            for part in ast.walk(function):
                if isinstance(part, COMPREHENSIONS):
                    inner = [other for other in ast.walk(part) if isinstance(other, COMPREHENSIONS) and other != part]
                    own = {word for step in part.generators for word in stored(step.target)}
                    for other in inner:
                        names = {word for step in other.generators for word in stored(step.target)} - {"_"}
                        self.assertEqual(names & (outer | own), set(), (name, function.name))

    def test_generators(self):
        functions = nodes(ast.FunctionDef)
        names = [node.name for _, node in functions if any(isinstance(part, ast.Yield) for part in ast.walk(node))]
        self.assertEqual(sorted(names), ["possible", "strengthenings", "users"])
        for name in names:
            self.assertEqual(len([node for _, node in functions if node.name == name]), 1)
        iterated = []
        for _, node in nodes((ast.For, ast.comprehension)):
            iterated.append(node.iter)
        for _, node in nodes(ast.Call):
            if isinstance(node.func, ast.Name) and node.func.id in ITERATING:
                iterated += node.args
        for _, node in nodes(ast.Call):
            called = getattr(node.func, "id", getattr(node.func, "attr", None))
            self.assertTrue(called not in names or node in iterated, called)

    def test_properties_only_return_what_is_stored(self):
        for _, node in nodes(ast.FunctionDef):
            if "property" in [getattr(word, "id", None) for word in node.decorator_list]:
                self.assertEqual(len(node.body), 2, node.name)
                self.assertRegex(ast.unparse(node.body[1]), r"\Areturn (self\._[a-z]+|list\(self\._[a-z]+\))\Z")

    def test_no_sets_and_no_sorting_in_place(self):
        # Sets are only for counting on the spot; a package with __eq__ does not call .sort().
        self.assertEqual(nodes((ast.Set, ast.SetComp)), [])
        for name, node in nodes(ast.Call):
            self.assertNotEqual(getattr(node.func, "attr", None), "sort", name)
            if getattr(node.func, "id", None) in ("any", "all", "sum", "sorted"):
                self.assertNotIsInstance(node.args[0], ast.GeneratorExp, name)

    def test_only_plain_files(self):
        self.assertTrue(FILES)
        for path in FILES:
            self.assertRegex(path.name, r"\A[a-z_]+\.py\Z")

    def test_sizes_and_characters(self):
        for path in FILES:
            rows = path.read_text(encoding="utf-8").split("\n")
            self.assertLess(len(rows), 400, path)
            for row in rows:
                self.assertLessEqual(len(row), 120, row)
                self.assertRegex(row, r"\A[ -~]*\Z")
        for name, node in nodes(ast.FunctionDef):
            self.assertLessEqual(node.end_lineno - node.lineno + 1, 40, (name, node.name))

    def test_imports(self):
        self.assertEqual(nodes(ast.Import), [])
        above = {}
        for path, tree in TREES:
            for node in ast.walk(tree):
                if isinstance(node, ast.ImportFrom):
                    self.assertRegex(node.module, r"\Arotatesafe\.[a-z]+\Z")
                    self.assertIn(node, tree.body)
                    self.assertTrue(all(item.name != "*" for item in node.names))
                    above.setdefault(path.stem, []).append(node.module.split(".")[1])
        while above:
            free = [name for name, others in above.items() if not any(other in above for other in others)]
            self.assertTrue(free, above)
            for name in free:
                del above[name]

    def test_kinds_of_statements_and_expressions(self):
        barred = (ast.Global, ast.AsyncFunctionDef, ast.Await, ast.GeneratorExp, ast.Div, ast.YieldFrom)
        self.assertEqual(nodes(barred), [])
        for name, node in nodes(ast.Constant):
            self.assertNotIsInstance(node.value, (float, complex), name)
            self.assertNotIn("%", node.value if isinstance(node.value, str) else "", name)

    def test_names(self):
        barred = set(dir(builtins)) - BUILTINS
        for name, node in nodes(ast.Name):
            self.assertNotIn(node.id, barred, name)
            self.assertFalse(isinstance(node.ctx, ast.Store) and node.id in dir(builtins), (name, node.id))
        for name, node in nodes(ast.FunctionDef):
            self.assertTrue(not node.name.startswith("__") or node.name in DUNDERS, (name, node.name))
            for argument in node.args.args:
                self.assertNotIn(argument.arg, dir(builtins), name)

    def test_module_level(self):
        allowed = (ast.ImportFrom, ast.FunctionDef, ast.ClassDef, ast.Assign)
        for path, tree in TREES:
            for place, node in enumerate(tree.body):
                docstring = place == 0 and isinstance(node, ast.Expr) and isinstance(node.value, ast.Constant)
                self.assertTrue(docstring or isinstance(node, allowed), (path, node.lineno))


if __name__ == "__main__":
    unittest.main()
