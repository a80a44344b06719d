"""The package keeps to the written subset of Python, as far as a look at its trees can tell."""

import ast
import builtins
import pathlib
import re
import unittest

PACKAGE = pathlib.Path(__file__).resolve().parent.parent / "hotpass"
BUILTINS = set("""len range enumerate zip min max sum abs sorted reversed int str bool list tuple dict set
    isinstance ord repr any all divmod iter next Exception ValueError TypeError KeyError IndexError LookupError
    ZeroDivisionError ArithmeticError OverflowError RuntimeError NotImplementedError property staticmethod
    classmethod super""".split())
METHODS = set("""append clear copy count endswith extend find get index insert isalnum isalpha isdigit islower
    isspace isupper items join keys ljust lower lstrip partition pop remove replace reverse rfind rjust
    rpartition rsplit rstrip setdefault split splitlines startswith strip update upper values zfill bit_length
    add discard __init__""".split())
DUNDERS = set("__init__ __eq__ __repr__ __str__ __len__".split())
BARRED_WORDS = re.compile(r"\b(type|typing|typing_extensions|enum|Enum|IntEnum|StrEnum|Flag|IntFlag|Generic|Protocol"
                          r"|ABC|ABCMeta|namedtuple|NamedTuple|TypedDict|TYPE_CHECKING|abstractmethod)\b"
                          r"|dataclass|overload|contextmanager")
BARRED_NAMES = set("""register mro elements open input version_info with_traceback add_note attrgetter breakpoint
    builtins compile copyright credits delattr dir eval exec exit gc getattr globals hasattr help id importlib
    license locals methodcaller os quit setattr sys type vars""".split())
BARRED_NODES = (ast.Global, ast.AsyncFunctionDef, ast.AsyncFor, ast.AsyncWith, ast.Await, ast.Import, ast.Div)
EAGER = ("any", "all", "min", "max", "sum", "sorted")
# Which keywords a builtin may be called with.
KEYWORDS = {"sorted": {"key", "reverse"}, "min": {"key", "default"}, "max": {"key", "default"}, "sum": {"start"},
            "enumerate": {"start"}, "zip": {"strict"}}
# What gives no list is gone through where it stands.
LAZY = ("zip", "enumerate", "reversed", "range")
GOES_THROUGH = ("list", "tuple", "dict", "sorted", "sum", "any", "all", "enumerate", "zip", "min", "max", "len", "reversed")
INTERFACE = {"Metal": "heat life cools_to __eq__ __str__ __repr__",
             "Gang": "taking handed through pace binds __len__ __eq__ __str__ __repr__",
             "Yard": """joins put slow miss rest paced manned beat go leap now names where counts holding takes_of
                 __len__ like""",
             "Book": "tell untell yard_at happened voids standing calls known like"}
FUNCTIONS = {"plans": "least_end asked_at asks_of keeps", "passing": "passed held shows_passed",
             "slow": "late_by made_up first_cold", "turns": "turns least_mouth", "turnpapers": "burnt_paper shows_turns",
             "shares": "for_ever", "rounds": "round_of shows_round", "sheets": "lack_of follows",
             "sheetpapers": "places_for ring_for shows_places shows_ring",
             "texts": "gang_text gang_in metal_text metal_in", "desk": "answers",
             "metals": "Metal", "gangs": "Gang", "yard": "Yard", "book": "Book"}
# Of Python's own errors these alone may be caught around anything.
CAUGHT_FREELY = {"KeyError", "ZeroDivisionError", "StopIteration"}


def files():
    return sorted(PACKAGE.glob("*.py"))


def trees():
    return [(path, ast.parse(path.read_text())) for path in files()]


def nodes(kind):
    return [(f"{path.name}:{getattr(node, 'lineno', 0)}", node)
            for path, tree in trees() for node in ast.walk(tree) if isinstance(node, kind)]


def is_call_of(node, names):
    """Whether it is a call of a function of one of these names."""
    return isinstance(node, ast.Call) and isinstance(node.func, ast.Name) and node.func.id in names


def local_names(function):
    """The parameters and variables of a function."""
    found = [node.arg for node in ast.walk(function) if isinstance(node, ast.arg)]
    return found + [node.id for node in ast.walk(function)
                    if isinstance(node, ast.Name) and isinstance(node.ctx, ast.Store)]


def gone_through_at_once():
    """The expressions that a loop, a comprehension or a builtin goes through where they stand."""
    found = [node.iter for _, node in nodes((ast.For, ast.comprehension))]
    for _, node in nodes(ast.Call):
        if is_call_of(node, GOES_THROUGH) or (isinstance(node.func, ast.Attribute) and node.func.attr == "join"):
            found += node.args
    return [(node.lineno, node.col_offset, ast.dump(node)) for node in found]


def own_methods():
    return {row.name for _, node in nodes(ast.ClassDef) for row in node.body if isinstance(row, ast.FunctionDef)}


def stored_attributes():
    return {node.attr for _, node in nodes(ast.Attribute) if isinstance(node.ctx, ast.Store)}


class LanguageTest(unittest.TestCase):
    def test_folder(self):
        for path in PACKAGE.iterdir():
            if path.name != "__pycache__":
                self.assertRegex(path.name, r"^[a-z_][a-z0-9_]*\.py$")
        self.assertLessEqual(len(files()), 100)

    def test_characters_and_sizes(self):
        for path in files():
            text = path.read_text()
            self.assertRegex(text, r"\A[\n -~]*\Z", path.name)
            self.assertLessEqual(text.count("\n"), 400, path.name)
            self.assertLessEqual(max([len(row) for row in text.split("\n")]), 120, path.name)
            self.assertIsNone(BARRED_WORDS.search(text), path.name)
        for where, node in nodes(ast.FunctionDef):
            self.assertLessEqual(node.end_lineno - node.lineno + 1, 40, where)

    def test_imports(self):
        above = {}
        for path, tree in trees():
            found = [node for node in ast.walk(tree) if isinstance(node, ast.ImportFrom)]
            above[path.stem] = [node.module.split(".")[-1] for node in found]
            for node in found:
                self.assertEqual(node.level, 0)
                self.assertRegex(node.module, r"^hotpass\.[a-z]+$")
                source = ast.parse((PACKAGE / (node.module.split(".")[1] + ".py")).read_text())
                defined = {row.name for row in source.body if isinstance(row, (ast.FunctionDef, ast.ClassDef))}
                defined |= {row.targets[0].id for row in source.body if isinstance(row, ast.Assign)}
                self.assertLessEqual({name.name for name in node.names}, defined, path.name)
        while above:
            free = [name for name in above if not set(above[name]) & set(above)]
            self.assertTrue(free, f"files import from each other: {sorted(above)}")
            for name in free:
                del above[name]

    def test_module_level(self):
        for path, tree in trees():
            self.assertIsNotNone(ast.get_docstring(tree), path.name)
            bound = []
            for row in tree.body[1:]:
                self.assertIsInstance(row, (ast.ImportFrom, ast.FunctionDef, ast.ClassDef, ast.Assign), path.name)
                if isinstance(row, ast.Assign):
                    self.assertIsInstance(row.targets[0], ast.Name)
                    bound += [row.targets[0].id]
                elif isinstance(row, ast.ImportFrom):
                    bound += [name.asname or name.name for name in row.names]
                else:
                    bound += [row.name]
            self.assertEqual(len(bound), len(set(bound)), path.name)

    def test_barred_nodes(self):
        for where, node in nodes(BARRED_NODES):
            self.fail(f"{where}: {node}")
        for where, node in nodes(ast.Constant):
            self.assertNotIsInstance(node.value, (float, complex), where)
            if isinstance(node.value, str):
                self.assertNotIn("%", node.value, where)
        for where, node in nodes(ast.BinOp):
            if isinstance(node.op, ast.Pow):
                self.assertIsInstance(node.right, ast.Constant, where)

    def test_is_beside_none_true_false_alone(self):
        for where, node in nodes(ast.Compare):
            for sign, right in zip(node.ops, node.comparators):
                if isinstance(sign, (ast.Is, ast.IsNot)):
                    self.assertIsInstance(right, ast.Constant, where)
                    self.assertIn(right.value, (None, True, False), where)

    def test_names(self):
        named = [(where, node.id) for where, node in nodes(ast.Name) if isinstance(node.ctx, ast.Store)]
        named += [(where, node.arg) for where, node in nodes(ast.arg)]
        named += [(where, node.name) for where, node in nodes((ast.FunctionDef, ast.ClassDef))
                  if not node.name.startswith("__")]
        for where, name in named:
            self.assertRegex(name, r"^[A-Za-z][A-Za-z0-9_]*$", where)
            self.assertNotIn(name, BARRED_NAMES, where)
            self.assertFalse(hasattr(builtins, name), f"{where}: {name}")

    def test_builtins(self):
        for where, node in nodes(ast.Name):
            if isinstance(node.ctx, ast.Load) and hasattr(builtins, node.id):
                self.assertIn(node.id, BUILTINS, where)

    def test_methods(self):
        own = own_methods()
        self.assertEqual(own & stored_attributes(), set())
        for where, node in nodes(ast.Call):
            if isinstance(node.func, ast.Attribute):
                self.assertIn(node.func.attr, METHODS | own, where)
        for name in own:
            if name.startswith("__"):
                self.assertIn(name, DUNDERS)

    def test_attributes_that_are_read_are_assigned(self):
        known = stored_attributes() | own_methods() | METHODS
        for where, node in nodes(ast.Attribute):
            self.assertIn(node.attr, known, where)
            self.assertFalse(node.attr.startswith("_") and node.attr not in DUNDERS, where)

    def test_methods_of_the_interface_stand_in_their_class(self):
        classes = {node.name: node for _, node in nodes(ast.ClassDef)}
        for name, methods in INTERFACE.items():
            found = [row.name for row in classes[name].body if isinstance(row, ast.FunctionDef)]
            self.assertLessEqual(set(methods.split()), set(found), name)
            self.assertEqual(len(found), len(set(found)), name)

    def test_names_of_the_interface_stand_in_their_files(self):
        for name, defined in FUNCTIONS.items():
            tree = ast.parse((PACKAGE / f"{name}.py").read_text())
            found = [row.name for row in tree.body if isinstance(row, (ast.FunctionDef, ast.ClassDef))]
            self.assertLessEqual(set(defined.split()), set(found), name)

    def test_values_at_module_level_are_plain(self):
        for path, tree in trees():
            defined = [row.name for row in tree.body if isinstance(row, ast.FunctionDef)]
            for row in tree.body:
                if not isinstance(row, ast.Assign):
                    continue
                for node in ast.walk(row.value):
                    self.assertNotIsInstance(node, (ast.Call, ast.ListComp, ast.Lambda, ast.Set, ast.Attribute), path.name)
                    if isinstance(node, ast.Name):
                        self.assertIn(node.id, defined, path.name)
                    if isinstance(node, (ast.List, ast.Dict)):
                        self.assertIs(node, row.value, path.name)

    def test_errors_that_are_caught(self):
        own = {node.name for _, node in nodes(ast.ClassDef)}
        for where, node in nodes(ast.ExceptHandler):
            self.assertIsInstance(node.type, ast.Name, where)
            self.assertIn(node.type.id, own | CAUGHT_FREELY, where)

    def test_errors_are_made_where_they_are_raised(self):
        own = {node.name for _, node in nodes(ast.ClassDef)}
        for where, node in nodes(ast.Raise):
            self.assertIsInstance(node.exc, ast.Call, where)
            self.assertIn(node.exc.func.id, own, where)
            self.assertTrue(node.cause is None or node.cause.value is None, where)

    def test_classes_are_called_or_stand_where_a_class_may(self):
        own = {node.name for _, node in nodes(ast.ClassDef)}
        for path, tree in trees():
            allowed = []
            for node in ast.walk(tree):
                if isinstance(node, ast.Call):
                    allowed += [node.func] + (node.args[1:] if is_call_of(node, ("isinstance",)) else [])
                elif isinstance(node, ast.ClassDef):
                    allowed += node.bases
                elif isinstance(node, ast.ExceptHandler):
                    allowed.append(node.type)
            for node in ast.walk(tree):
                if isinstance(node, ast.Name) and node.id in own:
                    self.assertTrue(any(node is other for other in allowed), f"{path.name}:{node.lineno}")

    def test_what_stands_behind_a_star_in_a_call(self):
        for where, node in nodes(ast.Call):
            for arg in node.args:
                if isinstance(arg, ast.Starred):
                    self.assertIsInstance(arg.value, ast.Name, where)
                    self.assertEqual(node.keywords, [], where)

    def test_no_generators_and_no_annotations(self):
        for where, node in nodes((ast.Yield, ast.YieldFrom, ast.GeneratorExp, ast.AnnAssign)):
            self.fail(f"{where}: {node}")
        for where, node in nodes(ast.FunctionDef):
            self.assertEqual(node.decorator_list, [], where)
            self.assertIsNone(node.returns, where)
            self.assertEqual(node.args.posonlyargs, [], where)

    def test_no_local_is_called_as_a_class_or_an_import(self):
        for path, tree in trees():
            taken = {name.asname or name.name for row in tree.body if isinstance(row, ast.ImportFrom)
                     for name in row.names}
            taken |= {row.name for row in tree.body if isinstance(row, ast.ClassDef)}
            for node in ast.walk(tree):
                if isinstance(node, ast.FunctionDef):
                    self.assertEqual(set(local_names(node)) & taken, set(), f"{path.name}:{node.name}")

    def test_keywords_of_builtins(self):
        of_builtins = METHODS - own_methods()
        for where, node in nodes(ast.Call):
            if isinstance(node.func, ast.Name) and hasattr(builtins, node.func.id):
                self.assertLessEqual({word.arg for word in node.keywords}, KEYWORDS.get(node.func.id, set()), where)
            if isinstance(node.func, ast.Attribute) and node.func.attr in of_builtins:
                self.assertEqual(node.keywords, [], where)

    def test_ranges_and_their_like_are_gone_through_at_once(self):
        at_once = gone_through_at_once()
        for where, node in nodes(ast.Call):
            of_a_dict = isinstance(node.func, ast.Attribute) and node.func.attr in ("items", "keys", "values")
            if is_call_of(node, LAZY) or of_a_dict:
                self.assertIn((node.lineno, node.col_offset, ast.dump(node)), at_once, where)

    def test_stored_sets_are_bound_once_and_not_gone_through(self):
        for where, function in nodes(ast.FunctionDef):
            stored = [row.targets[0].id for row in ast.walk(function) if isinstance(row, ast.Assign)
                      and (is_call_of(row.value, ("set",)) or isinstance(row.value, (ast.Set, ast.SetComp)))]
            for name in stored:
                self.assertEqual(local_names(function).count(name), 1, where)
            for node in ast.walk(function):
                if isinstance(node, (ast.For, ast.comprehension)) and isinstance(node.iter, ast.Name):
                    self.assertNotIn(node.iter.id, stored, where)
                if isinstance(node, ast.Return) and isinstance(node.value, ast.Name):
                    self.assertNotIn(node.value.id, stored, where)

    def test_lists_instead_of_generators(self):
        for where, node in nodes(ast.Call):
            if isinstance(node.func, ast.Name) and node.func.id in EAGER:
                for arg in node.args:
                    self.assertNotIsInstance(arg, ast.GeneratorExp, where)

    def test_returns_of_len(self):
        for where, node in nodes(ast.FunctionDef):
            if node.name == "__len__":
                for row in ast.walk(node):
                    if isinstance(row, ast.Return):
                        self.assertEqual(row.value.func.id, "len", where)


if __name__ == "__main__":
    unittest.main()
