"""The package keeps to the plain subset of Python in which it is written, and defines its interface where listed."""

import ast
import builtins
import re
import unittest
from pathlib import Path

PACKAGE = Path(__file__).resolve().parent.parent / "cutstairs"

INTERFACE = {
    "errors": ("StairError", "NoText", "NoNumber", "NoCut", "NoPrice", "NoStream", "NoName", "NoFall", "NoShare",
               "NoPart", "NoTop", "NoPlace", "NoTie", "NoUndo", "NoWeb", "NoRow"),
    "fractions": ("is_fraction", "fraction", "plus", "minus", "times", "over", "below"),
    "webs": ("is_web", "is_price", "names_of", "sizes_at"),
    "webtexts": ("show_web", "read_web"),
    "cuts": ("is_cut", "line_of", "worth_of", "all_cuts"),
    "streams": ("is_stream", "stream_at", "stream_worth", "led_to", "led_from"),
    "least": ("least_worth", "least_cut", "most_cut"),
    "shapes": ("shape_at", "many_cuts", "cuts_at"),
    "stairs": ("stair_of", "worth_by", "bits_at"),
    "coming": ("comes_over", "coming_order", "all_goes"),
    "risers": ("Riser",),
    "sharing": ("shares_of", "levels_of"),
    "graphs": ("is_graph", "within"),
    "dense": ("densest", "thickest", "density_leans", "thickness_leans"),
    "beside": ("beside",),
    "keepers": ("Keeper",),
    "houses": ("is_house", "best_jobs", "jobs_stair"),
    "pictures": ("is_picture", "tones_of"),
    "checker": ("holds",),
    "papers": ("paper_worth", "paper_least", "paper_most", "paper_cuts", "paper_stair", "paper_goes", "paper_shares",
               "paper_densest", "paper_thickest", "paper_earns"),
    "deskwords": (),
    "desk": ("Desk",),
}

CLASS_METHODS = {
    "Riser": ("rise", "price", "worth", "cut", "stream"),
    "Keeper": ("put", "take", "tie", "untie", "set_top", "undo", "web", "stair"),
    "Desk": ("say",),
}

BUILTINS = set("""len range enumerate zip min max sum abs sorted reversed int str bool list tuple dict set isinstance
    ord repr any all divmod ValueError KeyError super""".split())

# The methods of builtin values, and own ones that the package itself calls.
METHODS = set("""append clear copy count endswith extend find get index insert isalnum isalpha isdigit islower isspace
    isupper items join keys ljust lower lstrip partition pop remove replace reverse rfind rjust rpartition rsplit rstrip
    setdefault split splitlines startswith strip update upper values zfill bit_length __init__ change put take tie untie set_top
    undo web""".split())

BARRED = re.compile(r"\b(type|typing|typing_extensions|enum|Enum|IntEnum|StrEnum|Flag|IntFlag|Generic|Protocol|ABC|"
                    r"ABCMeta|namedtuple|NamedTuple|TypedDict|TYPE_CHECKING|abstractmethod)\b"
                    r"|dataclass|overload|contextmanager")

STATEMENTS = (ast.Assign, ast.AugAssign, ast.If, ast.While, ast.For, ast.Return, ast.Break, ast.Continue, ast.Pass,
              ast.Raise, ast.Assert, ast.Delete, ast.Try, ast.Expr, ast.FunctionDef, ast.ClassDef, ast.ImportFrom)


def files():
    return sorted(path for path in PACKAGE.iterdir() if path.name != "__pycache__")


def trees():
    return [(path, ast.parse(path.read_text("utf-8"))) for path in files()]


def bound_names(tree):
    """All names that a tree binds: targets, parameters, functions, classes."""
    for node in ast.walk(tree):
        if isinstance(node, ast.Name) and not isinstance(node.ctx, ast.Load):
            yield node.id
        elif isinstance(node, ast.arg):
            yield node.arg
        elif isinstance(node, (ast.FunctionDef, ast.ClassDef)):
            yield node.name


def classes():
    return [node for path, tree in trees() for node in tree.body if isinstance(node, ast.ClassDef)]


def methods_of(node):
    return [part.name for part in node.body if isinstance(part, ast.FunctionDef)]


def imports_of(tree):
    return [node for node in ast.walk(tree) if isinstance(node, (ast.Import, ast.ImportFrom))]


class TestFiles(unittest.TestCase):
    def test_plain_python_files_alone(self):
        for path in files():
            self.assertRegex(path.name, r"^([a-z][a-z0-9_]*|__init__)\.py$")
            self.assertTrue(path.is_file())

    def test_plain_signs_and_short_lines(self):
        for path in files():
            text = path.read_bytes()
            self.assertTrue(all(sign == 10 or 32 <= sign <= 126 for sign in text), path.name)
            lines = text.decode("ascii").split("\n")
            self.assertLessEqual(len(lines), 400, path.name)
            self.assertLessEqual(max(len(line) for line in lines), 120, path.name)

    def test_short_functions(self):
        for path, tree in trees():
            for node in ast.walk(tree):
                if isinstance(node, ast.FunctionDef):
                    self.assertLessEqual(node.end_lineno - node.lineno + 1, 40, (path.name, node.name))

    def test_barred_words(self):
        for path in files():
            self.assertIsNone(BARRED.search(path.read_text("utf-8")), path.name)


class TestModules(unittest.TestCase):
    def test_the_interface_is_defined_where_it_is_listed(self):
        for module, names in INTERFACE.items():
            tree = ast.parse((PACKAGE / f"{module}.py").read_text("utf-8"))
            told = [node.name for node in tree.body if isinstance(node, (ast.FunctionDef, ast.ClassDef))]
            for name in names:
                self.assertIn(name, told)

    def test_listed_methods_stand_in_the_class_itself(self):
        told = {node.name: methods_of(node) for node in classes()}
        for name, methods in CLASS_METHODS.items():
            for method in methods:
                self.assertIn(method, told[name])

    def test_module_level(self):
        for path, tree in trees():
            for at, node in enumerate(tree.body):
                docstring = at == 0 and isinstance(node, ast.Expr) and isinstance(node.value, ast.Constant)
                plain = isinstance(node, (ast.ImportFrom, ast.FunctionDef, ast.ClassDef, ast.Assign))
                self.assertTrue(docstring or plain, (path.name, node.lineno))

    def test_imports_name_the_defining_file(self):
        for path, tree in trees():
            for node in imports_of(tree):
                self.assertIsInstance(node, ast.ImportFrom, path.name)
                self.assertEqual(node.level, 0)
                package, module = node.module.split(".")
                self.assertEqual(package, "cutstairs")
                source = ast.parse((PACKAGE / f"{module}.py").read_text("utf-8"))
                defined = {part.name for part in source.body if isinstance(part, (ast.FunctionDef, ast.ClassDef))}
                defined |= {part.targets[0].id for part in source.body if isinstance(part, ast.Assign)}
                for alias in node.names:
                    self.assertIn(alias.name, defined)

    def test_no_ring_of_imports(self):
        asks = {path.stem: {node.module.split(".")[1] for node in imports_of(tree)} for path, tree in trees()}
        while asks:
            free = [name for name in asks if not asks[name] & set(asks)]
            self.assertTrue(free, asks)
            for name in free:
                del asks[name]


class TestNames(unittest.TestCase):
    def test_no_builtin_and_no_import_is_bound_anew(self):
        for path, tree in trees():
            imported = {alias.asname or alias.name for node in imports_of(tree) for alias in node.names}
            for name in bound_names(tree):
                if name == "__init__":
                    continue
                self.assertRegex(name, r"^[A-Za-z][A-Za-z0-9_]*$")
                self.assertFalse(hasattr(builtins, name), (path.name, name))
                self.assertNotIn(name, imported, path.name)

    def test_no_method_is_an_attribute_elsewhere(self):
        methods = {method for node in classes() for method in methods_of(node)}
        for path, tree in trees():
            for node in ast.walk(tree):
                if isinstance(node, ast.Attribute) and isinstance(node.ctx, ast.Store):
                    self.assertNotIn(node.attr, methods, (path.name, node.lineno))

    def test_builtins_and_methods_in_use(self):
        for path, tree in trees():
            for node in ast.walk(tree):
                if isinstance(node, ast.Name) and hasattr(builtins, node.id):
                    self.assertIn(node.id, BUILTINS, (path.name, node.lineno))
                if isinstance(node, ast.Call) and isinstance(node.func, ast.Attribute):
                    self.assertIn(node.func.attr, METHODS, (path.name, node.lineno))


class TestStatements(unittest.TestCase):
    def test_allowed_statements(self):
        for path, tree in trees():
            for node in ast.walk(tree):
                if isinstance(node, ast.stmt):
                    self.assertIsInstance(node, STATEMENTS, (path.name, node.lineno))

    def test_no_point_and_no_slash(self):
        for path, tree in trees():
            for node in ast.walk(tree):
                self.assertNotIsInstance(node, ast.Div, path.name)
                if isinstance(node, ast.Constant):
                    self.assertNotIsInstance(node.value, (float, complex), (path.name, node.lineno))
                    self.assertFalse(isinstance(node.value, str) and "%" in node.value, (path.name, node.lineno))

    def test_is_only_with_constants(self):
        for path, tree in trees():
            for node in ast.walk(tree):
                if isinstance(node, ast.Compare):
                    for sign, other in zip(node.ops, node.comparators):
                        if isinstance(sign, (ast.Is, ast.IsNot)):
                            self.assertIn(getattr(other, "value", 0), (None, True, False), (path.name, node.lineno))

    def test_no_decorators(self):
        for path, tree in trees():
            for node in ast.walk(tree):
                self.assertFalse(getattr(node, "decorator_list", []), path.name)


if __name__ == "__main__":
    unittest.main()
