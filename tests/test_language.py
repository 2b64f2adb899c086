"""The rules of the language subset that can be seen from the form of the code, and where the interface stands."""

import ast
import builtins
import pathlib
import re
import unittest

FOLDER = pathlib.Path(__file__).resolve().parent.parent / "wraptrails"

INTERFACE = {
    "errors": ("TrailError", "UnknownGateway", "BadStep", "NoEntry", "NotNeeded", "HasRevoke", "Unnoticed", "BadRegions",
               "BadGateway", "TakenGateway", "TooMany", "ClosesCycle", "NothingDone", "BadMark", "BadText", "BadLine"),
    "worlds": ("is_world", "members", "with_open", "plain"),
    "cycles": ("is_path", "is_cycle", "connected", "zones", "quiet", "noticed", "girth", "shortest_cycle"),
    "trails": ("is_trail", "crossed", "inward", "outward"),
    "programs": ("is_step", "is_program", "has_revoke"),
    "machines": ("Machine", "answers"),
    "trailmachine": ("TrailMachine",),
    "differences": ("differences", "compared"),
    "detectors": ("steps_needed", "detector", "shows_detector"),
    "cuts": ("least_cut", "shows_cut", "cut_variables"),
    "continuations": ("continuation", "shows_continuation"),
    "builders": ("Builder",),
    "sessions": ("Session",),
    "showing": ("show_world", "show_step", "show_program", "show_answer", "show_trail"),
    "reading": ("read_world", "read_program", "read_trail"),
    "desks": ("Desk",),
}

BUILTINS = set("""len range enumerate zip min max sum abs sorted reversed int str bool list tuple dict set isinstance ord
    repr any all divmod iter next Exception ValueError TypeError KeyError IndexError LookupError ZeroDivisionError
    ArithmeticError OverflowError RuntimeError NotImplementedError AttributeError StopIteration NotImplemented
    property staticmethod classmethod super""".split())
DOUBLE = set("__init__ __eq__ __repr__ __str__ __len__ __enter__ __exit__ __call__ __iter__".split())
WORDS = re.compile(r"\b(type|typing|typing_extensions|enum|Enum|IntEnum|StrEnum|Flag|IntFlag|Generic|Protocol|ABC|ABCMeta|"
                   r"namedtuple|NamedTuple|TypedDict|TYPE_CHECKING|abstractmethod)\b|dataclass|overload|contextmanager")
NEVER = set("register mro elements open input law version_info with_traceback add_note".split())
METHODS = set("""append clear copy count endswith extend find get index insert isalnum isalpha isdigit islower isspace
    isupper items join keys ljust lower lstrip partition pop remove replace reverse rfind rjust rpartition rsplit rstrip
    setdefault split splitlines startswith strip update upper values zfill bit_length removeprefix""".split())
BARRED = (ast.Global, ast.AsyncFunctionDef, ast.AsyncFor, ast.AsyncWith, ast.Await, ast.Import, ast.Div, ast.MatMult)


def files():
    return {path.stem: path for path in sorted(FOLDER.iterdir()) if path.name != "__pycache__"}


def trees():
    return {name: ast.parse(path.read_text(encoding="utf-8")) for name, path in files().items()}


def defined(tree):
    return [node.name for node in tree.body if isinstance(node, (ast.FunctionDef, ast.ClassDef))]


def constants(tree):
    return [target.id for node in tree.body if isinstance(node, ast.Assign) for target in node.targets]


def imports(tree):
    return [node for node in tree.body if isinstance(node, ast.ImportFrom)]


def functions(tree):
    return [node for node in ast.walk(tree) if isinstance(node, ast.FunctionDef)]


def bound_names(tree):
    """All names that functions bind: parameters and targets."""
    found = [node.arg for node in ast.walk(tree) if isinstance(node, ast.arg)]
    for function in functions(tree):
        found.extend(node.id for node in ast.walk(function) if isinstance(node, ast.Name) and isinstance(node.ctx, ast.Store))
        found.extend(captured_names(function))
    return found


def captured_names(node):
    return [part.name for part in ast.walk(node) if isinstance(part, (ast.MatchAs, ast.MatchStar)) and part.name is not None]


def classes(tree):
    return [node for node in tree.body if isinstance(node, ast.ClassDef)]


def methods(tree):
    return [part.name for made in classes(tree) for part in made.body if isinstance(part, ast.FunctionDef)]


def attributes(tree):
    """All attributes that are assigned, and all that are read without being called."""
    called = [node.func for node in ast.walk(tree) if isinstance(node, ast.Call)]
    found = [node for node in ast.walk(tree) if isinstance(node, ast.Attribute)]
    assigned = [node.attr for node in found if isinstance(node.ctx, ast.Store)]
    return assigned, [node.attr for node in found if isinstance(node.ctx, ast.Load) and node not in called]


def is_lazy(node):
    """Whether a call gives what must be iterated at once."""
    if not isinstance(node, ast.Call):
        return False
    if isinstance(node.func, ast.Attribute):
        return node.func.attr in ("items", "keys", "values")
    return isinstance(node.func, ast.Name) and node.func.id in ("zip", "enumerate", "reversed", "range")


class Interface(unittest.TestCase):
    def test_each_name_is_defined_in_its_file(self):
        for name, expected in INTERFACE.items():
            found = defined(trees()[name])
            for thing in expected:
                self.assertEqual(found.count(thing), 1, thing)


class Language(unittest.TestCase):
    def test_files(self):
        self.assertIn("__init__", files())
        for name, path in files().items():
            self.assertTrue(path.is_file() and re.fullmatch(r"[a-z_][a-z0-9_]*\.py", path.name), path)
            self.assertFalse(name in vars(builtins) or name.startswith(("test", "law_")), name)

    def test_sizes_and_signs(self):
        for path in files().values():
            text = path.read_text(encoding="utf-8")
            self.assertTrue(all(sign == "\n" or " " <= sign <= "~" for sign in text), path)
            lines = text.splitlines()
            self.assertLess(len(lines), 400, path)
            self.assertLessEqual(max([len(line) for line in lines]), 120, path)
            self.assertIsNone(WORDS.search(text), path)
        for tree in trees().values():
            for function in functions(tree):
                self.assertLessEqual(function.end_lineno - function.lineno + 1, 40, function.name)

    def test_imports(self):
        everything = trees()
        for name, tree in everything.items():
            for node in imports(tree):
                package, _, module = node.module.partition(".")
                self.assertEqual((package, node.level), ("wraptrails", 0), name)
                for alias in node.names:
                    self.assertIn(alias.name, defined(everything[module]) + constants(everything[module]))

    def test_no_two_files_import_from_each_other(self):
        needs = {name: {node.module.partition(".")[2] for node in imports(tree)} for name, tree in trees().items()}
        while needs:
            free = [name for name, others in needs.items() if not others & set(needs)]
            self.assertTrue(free, needs)
            needs = {name: others for name, others in needs.items() if name not in free}

    def test_module_level(self):
        for name, tree in trees().items():
            self.assertIsNotNone(ast.get_docstring(tree), name)
            bound = defined(tree) + constants(tree)
            bound += [alias.asname or alias.name for node in imports(tree) for alias in node.names]
            for node in tree.body[1:]:
                self.assertIsInstance(node, (ast.ImportFrom, ast.FunctionDef, ast.ClassDef, ast.Assign), name)
                if isinstance(node, ast.Assign):
                    ast.literal_eval(node.value)
            self.assertEqual(len(bound), len(set(bound)), name)
            self.assertFalse([thing for thing in bound if thing in vars(builtins)], name)

    def test_nodes(self):
        for name, tree in trees().items():
            for node in ast.walk(tree):
                self.assertNotIsInstance(node, BARRED, name)
                if isinstance(node, ast.FunctionDef):
                    self.assertFalse(node.decorator_list or node.args.posonlyargs, node.name)
                if isinstance(node, ast.Call):
                    for argument in node.args:
                        if isinstance(argument, ast.Starred):
                            self.assertIsInstance(argument.value, ast.Name, name)
                if isinstance(node, ast.Constant):
                    self.assertNotIsInstance(node.value, (float, complex), name)
                    self.assertFalse(isinstance(node.value, str) and "%" in node.value, name)
                if isinstance(node, ast.Compare):
                    for sign, right in zip(node.ops, node.comparators):
                        if isinstance(sign, (ast.Is, ast.IsNot)):
                            self.assertTrue(isinstance(right, ast.Constant) and right.value in (None, True, False), name)

    def test_names(self):
        for name, tree in trees().items():
            taken = [alias.name for node in imports(tree) for alias in node.names]
            taken += [node.name for node in tree.body if isinstance(node, ast.ClassDef)]
            for bound in bound_names(tree) + [function.name for function in functions(tree)]:
                self.assertFalse(bound.startswith("_") and bound not in DOUBLE, bound)
                self.assertNotIn(bound, NEVER)
            for bound in bound_names(tree):
                self.assertNotIn(bound, taken, name)
                self.assertFalse(bound in vars(builtins), bound)

    def test_builtins_and_methods(self):
        own = [function.name for tree in trees().values() for function in functions(tree)]
        for name, tree in trees().items():
            for node in ast.walk(tree):
                if isinstance(node, ast.Name) and node.id in vars(builtins):
                    self.assertIn(node.id, BUILTINS, name)
                if isinstance(node, ast.Call) and isinstance(node.func, ast.Attribute):
                    self.assertIn(node.func.attr, METHODS | set(own), name)

    def test_classes(self):
        everything = trees().values()
        named = {name for tree in everything for name in methods(tree)}
        assigned = {name for tree in everything for name in attributes(tree)[0]}
        self.assertFalse(named & assigned)
        for tree in everything:
            for made in classes(tree):
                own = [part.name for part in made.body if isinstance(part, ast.FunctionDef)]
                self.assertEqual(len(own), len(set(own)), made.name)
                self.assertIsNotNone(ast.get_docstring(made), made.name)
                self.assertEqual(len(own), len(made.body) - 1, made.name)
            for name in attributes(tree)[1]:
                self.assertIn(name, assigned)
            for function in functions(tree):
                if function.name == "__len__":
                    last = function.body[-1]
                    self.assertTrue(isinstance(last, ast.Return) and last.value.func.id == "len")
                self.assertFalse(function.name.startswith("__") and function.name not in DOUBLE, function.name)

    def test_own_methods_are_no_methods_of_builtin_values(self):
        taken = {name for kind in (str, int, list, dict, set, bytes, tuple) for name in dir(kind)}
        for name, tree in trees().items():
            for thing in methods(tree):
                self.assertTrue(thing in DOUBLE or thing not in taken or thing in ("add", "remove"), thing)
            for thing in attributes(tree)[0]:
                self.assertTrue(thing not in taken or thing == "count", thing)
            # Where a class has a method of that name, no set is changed by it.
            called = [node.func.attr for node in ast.walk(tree) if isinstance(node, ast.Call) and isinstance(node.func, ast.Attribute)]
            self.assertFalse({"add", "discard", "remove"} & set(called), name)

    def test_iterated_at_once(self):
        for name, tree in trees().items():
            parents = {child: node for node in ast.walk(tree) for child in ast.iter_child_nodes(node)}
            for node in ast.walk(tree):
                if is_lazy(node):
                    parent = parents[node]
                    around = parent.func.id if isinstance(parent, ast.Call) and isinstance(parent.func, ast.Name) else ""
                    good = around in ("list", "tuple", "dict", "sorted", "sum", "any", "all", "enumerate", "zip")
                    self.assertTrue(good or isinstance(parent, (ast.For, ast.comprehension)), (name, node.lineno))

    def test_finally(self):
        for name, tree in trees().items():
            for node in ast.walk(tree):
                if isinstance(node, ast.Try):
                    self.assertFalse(node.handlers, name)
                    for row in node.finalbody:
                        self.assertIsInstance(row, ast.Assign, name)
                        allowed = (ast.Tuple, ast.Name, ast.Attribute, ast.Load, ast.Store)
                        parts = [part for own in [*row.targets, row.value] for part in ast.walk(own)]
                        self.assertTrue(all(isinstance(part, allowed) for part in parts), name)

    def test_match(self):
        allowed = (ast.MatchSequence, ast.MatchValue, ast.MatchAs, ast.MatchStar, ast.MatchSingleton, ast.MatchOr)
        for name, tree in trees().items():
            for node in ast.walk(tree):
                if isinstance(node, ast.pattern):
                    self.assertIsInstance(node, allowed, name)
            for function in functions(tree):
                captured = captured_names(function)
                stored = [node.id for node in ast.walk(function) if isinstance(node, ast.Name) and isinstance(node.ctx, ast.Store)]
                given = [node.arg for node in ast.walk(function) if isinstance(node, ast.arg)]
                self.assertFalse(set(captured) & set(stored + given), function.name)

    def test_sets_stand_where_their_order_does_not_matter(self):
        for name, tree in trees().items():
            parents = {child: node for node in ast.walk(tree) for child in ast.iter_child_nodes(node)}
            for node in ast.walk(tree):
                made = isinstance(node, ast.Call) and isinstance(node.func, ast.Name) and node.func.id == "set"
                if made or isinstance(node, (ast.SetComp, ast.Set)):
                    parent = parents[node]
                    around = parent.func.id if isinstance(parent, ast.Call) and isinstance(parent.func, ast.Name) else ""
                    good = around in ("len", "sorted") or isinstance(parent, (ast.Assign, ast.Compare, ast.BinOp))
                    self.assertTrue(good, name)


if __name__ == "__main__":
    unittest.main()
