"""The form of the package's files: the main rules of the subset of the language that they keep to."""

import ast
import builtins
import pathlib
import re
import unittest

FOLDER = pathlib.Path(__file__).resolve().parent.parent / "noteshold"
FILES = {path.stem: path.read_text() for path in sorted(FOLDER.glob("*.py"))}
TREES = {name: ast.parse(text) for name, text in FILES.items()}

BUILTINS = """len range enumerate zip min max sum abs sorted reversed int str bool list tuple dict set isinstance ord repr
any all divmod iter ValueError TypeError NotImplemented""".split()
METHODS = """append clear copy count endswith extend find get index insert isalnum isalpha isdigit islower isspace isupper
items join keys ljust lower lstrip partition pop remove replace reverse rfind rjust rpartition rsplit rstrip setdefault
split splitlines startswith strip update upper values zfill bit_length isascii removeprefix removesuffix""".split()
DOUBLE = """__init__ __eq__ __len__ __iter__ __contains__ __getitem__ __or__ __and__ __sub__ __invert__""".split()
BARRED_NAMES = """register mro elements open input law version_info with_traceback add_note attrgetter breakpoint builtins
compile copyright credits delattr dir eval exec exit gc getattr globals hasattr help id importlib license locals
methodcaller os quit setattr super type vars sys""".split()
BARRED_WORDS = """typing typing_extensions enum Enum IntEnum StrEnum Flag IntFlag Generic Protocol ABC ABCMeta namedtuple
NamedTuple TypedDict TYPE_CHECKING abstractmethod""".split()
STATEMENTS = (ast.Assign, ast.AugAssign, ast.If, ast.While, ast.For, ast.Return, ast.Break, ast.Continue, ast.Pass,
              ast.Raise, ast.Assert, ast.Delete, ast.Expr, ast.FunctionDef, ast.ClassDef, ast.ImportFrom, ast.Try,
              ast.Match)
AT_ONCE = ("zip", "enumerate", "reversed", "range", "items", "keys", "values")
TAKE = ("list", "tuple", "dict", "sorted", "sum", "any", "all", "enumerate", "zip", "min", "max")


def nodes(kind):
    return [(name, node) for name, tree in TREES.items() for node in ast.walk(tree) if isinstance(node, kind)]


def parents(tree):
    return {child: node for node in ast.walk(tree) for child in ast.iter_child_nodes(node)}


def called(node):
    """The word by which something is called, '' for anything else."""
    if not isinstance(node, ast.Call):
        return ""
    return node.func.id if isinstance(node.func, ast.Name) else getattr(node.func, "attr", "")


def bound_in(function):
    """All names that a function binds, its parameters among them."""
    names = [arg.arg for arg in function.args.args]
    return names + [node.id for node in ast.walk(function) if isinstance(node, ast.Name) and isinstance(node.ctx, ast.Store)]


class FilesTest(unittest.TestCase):
    def test_folder(self):
        others = [path.name for path in FOLDER.iterdir() if path.suffix != ".py" and path.name != "__pycache__"]
        self.assertEqual(others, [])
        self.assertIn("__init__", FILES)

    def test_size_and_signs(self):
        for name, text in FILES.items():
            self.assertLessEqual(len(text.splitlines()), 399, name)
            self.assertTrue(all(sign == "\n" or " " <= sign <= "~" for sign in text), name)
            self.assertTrue(all(len(line) <= 120 for line in text.splitlines()), name)
        for name, node in nodes(ast.FunctionDef):
            self.assertLessEqual(node.end_lineno - node.lineno + 1, 40, (name, node.name))

    def test_imports(self):
        froms = {}
        for name, node in nodes((ast.Import, ast.ImportFrom)):
            self.assertIsInstance(node, ast.ImportFrom, name)
            self.assertEqual(node.level, 0)
            file = node.module.removeprefix("noteshold.")
            self.assertIn(file, FILES)
            defined = [part.name for part in TREES[file].body if isinstance(part, (ast.FunctionDef, ast.ClassDef))]
            defined += [part.targets[0].id for part in TREES[file].body if isinstance(part, ast.Assign)]
            for alias in node.names:
                self.assertIn(alias.name, defined, (name, file))
                self.assertIsNone(alias.asname)
            froms.setdefault(name, []).append(file)
        done = []
        while len(done) < len(FILES):
            ready = [name for name in FILES if name not in done and all(file in done for file in froms.get(name, []))]
            self.assertNotEqual(ready, [], "files import one another in a ring")
            done.extend(ready)

    def test_imports_are_used(self):
        for name, tree in TREES.items():
            used = [node.id for node in ast.walk(tree) if isinstance(node, ast.Name)]
            for node in tree.body:
                if isinstance(node, ast.ImportFrom):
                    self.assertEqual([alias.name for alias in node.names if alias.name not in used], [], name)

    def test_module_level(self):
        for name, tree in TREES.items():
            bound = []
            for node in tree.body:
                if isinstance(node, ast.Expr):
                    self.assertIsInstance(node.value, ast.Constant)
                elif isinstance(node, ast.Assign):
                    self.assertIsNotNone(ast.literal_eval(node.value))
                    bound.append(node.targets[0].id)
                elif isinstance(node, ast.ImportFrom):
                    bound.extend(alias.name for alias in node.names)
                else:
                    self.assertIsInstance(node, (ast.FunctionDef, ast.ClassDef))
                    bound.append(node.name)
            self.assertEqual(len(bound), len(set(bound)), name)


class StatementsTest(unittest.TestCase):
    def test_statements(self):
        for name, node in nodes(ast.stmt):
            self.assertIsInstance(node, STATEMENTS, (name, node.lineno))

    def test_no_other_expressions(self):
        barred = (ast.GeneratorExp, ast.Yield, ast.YieldFrom, ast.Await, ast.Set, ast.Div, ast.NamedExpr, ast.Global,
                  ast.Lambda, ast.Pow, ast.MatMult)
        for name, node in nodes(barred):
            self.fail((name, type(node)))
        for name, node in nodes(ast.Constant):
            self.assertIsInstance(node.value, (int, str, type(None)), (name, node.lineno))
            if isinstance(node.value, str):
                self.assertNotIn("%", node.value)
                self.assertFalse(node.value.startswith("__") and node.value.endswith("__"))

    def test_functions(self):
        for name, node in nodes(ast.FunctionDef):
            place = (name, node.name)
            self.assertIsNone(node.returns, place)
            self.assertTrue(all(arg.annotation is None for arg in node.args.args), place)
            self.assertEqual([node.args.vararg, node.args.kwarg, node.args.kwonlyargs, node.args.posonlyargs],
                             [None, None, [], []], place)
            for value in node.args.defaults:
                self.assertIn(ast.literal_eval(value), (None, ()), place)
            self.assertTrue(all(getattr(one, "id", "") == "staticmethod" for one in node.decorator_list), place)
            if node.name.startswith("__"):
                self.assertIn(node.name, DOUBLE, place)

    def test_patterns_are_rows_of_names(self):
        for name, function in nodes(ast.FunctionDef):
            for node in [one for one in ast.walk(function) if isinstance(one, ast.Match)]:
                for case in node.cases:
                    caught = [one.name for one in ast.walk(case.pattern) if isinstance(one, ast.MatchAs)]
                    self.assertEqual(len(caught), len(set(caught)), (name, function.name))
                    self.assertEqual([word for word in bound_in(function) if word in caught], [], (name, function.name))
                    self.assertIsNone(case.guard, (name, function.name))
                    for one in ast.walk(case.pattern):
                        if isinstance(one, ast.pattern):
                            self.assertIsInstance(one, (ast.MatchSequence, ast.MatchAs), (name, function.name))
                            self.assertIsNone(getattr(one, "pattern", None), (name, function.name))
                    if not isinstance(case.pattern, ast.MatchSequence):
                        self.assertIs(case, node.cases[-1], (name, function.name))

    def test_raise_makes_its_error(self):
        for name, node in nodes(ast.Raise):
            self.assertIsInstance(node.exc, ast.Call, (name, node.lineno))
            self.assertIsInstance(node.exc.func, ast.Name)
            self.assertIsNone(node.cause)

    def test_handlers_name_own_errors(self):
        own = [node.name for _, node in nodes(ast.ClassDef)]
        for name, node in nodes(ast.Try):
            self.assertEqual(node.orelse, [], name)
            for one in node.finalbody:
                told = [one.value] + one.targets
                told = [part for row in told for part in (row.elts if isinstance(row, ast.Tuple) else [row])]
                self.assertTrue(all(isinstance(part, (ast.Name, ast.Attribute)) for part in told), name)
            for one in node.handlers:
                kinds = one.type.elts if isinstance(one.type, ast.Tuple) else [one.type]
                self.assertTrue(all(kind.id in own for kind in kinds) and one.name is None, name)

    def test_no_stars_in_calls(self):
        for name, node in nodes(ast.Call):
            self.assertFalse(any(isinstance(one, ast.Starred) for one in node.args), (name, node.lineno))
            self.assertTrue(all(one.arg is not None for one in node.keywords), (name, node.lineno))

    def test_is(self):
        for name, node in nodes(ast.Compare):
            for sign, other in zip(node.ops, node.comparators):
                if isinstance(sign, (ast.Is, ast.IsNot)):
                    self.assertIn(getattr(other, "value", 0), (None, True, False), (name, node.lineno))

    def test_init_returns_nothing(self):
        for name, node in nodes(ast.FunctionDef):
            returns = [one for one in ast.walk(node) if isinstance(one, ast.Return)]
            if node.name == "__init__":
                self.assertEqual(returns, [], name)
            if node.name == "__len__":
                self.assertTrue(all(called(one.value) == "len" for one in returns), name)


class NamesTest(unittest.TestCase):
    def test_builtins(self):
        for name, tree in TREES.items():
            for node in ast.walk(tree):
                if isinstance(node, ast.Name) and hasattr(builtins, node.id):
                    self.assertIn(node.id, BUILTINS + ["staticmethod"], (name, node.lineno))
                    self.assertIsInstance(node.ctx, ast.Load, (name, node.lineno))
                if isinstance(node, ast.arg):
                    self.assertFalse(hasattr(builtins, node.arg), (name, node.lineno))

    def test_barred_names(self):
        for name, tree in TREES.items():
            text = re.sub(r'""".*?"""', "", re.sub(r"#.*", "", FILES[name]), flags=re.S)
            self.assertEqual([word for word in re.findall(r"\w+", text) if word in BARRED_WORDS + ["type"]], [], name)
            for node in ast.walk(tree):
                told = [getattr(node, part, None) for part in ("id", "arg", "name", "attr")]
                for word in told:
                    self.assertNotIn(word, BARRED_NAMES, name)
                    self.assertFalse(isinstance(word, str) and word.startswith("__") and word not in DOUBLE, word)

    def test_locals_beside_imports_and_classes(self):
        for name, tree in TREES.items():
            barred = [alias.name for node in tree.body if isinstance(node, ast.ImportFrom) for alias in node.names]
            barred += [node.name for node in tree.body if isinstance(node, ast.ClassDef)]
            functions = [node.name for node in tree.body if isinstance(node, ast.FunctionDef)]
            for node in ast.walk(tree):
                if isinstance(node, ast.FunctionDef):
                    self.assertEqual([word for word in bound_in(node) if word in barred + functions], [], (name, node.name))

    def test_underscore_is_never_read(self):
        for name, node in nodes(ast.Name):
            self.assertFalse(node.id == "_" and isinstance(node.ctx, ast.Load), name)

    def test_methods(self):
        own = [part.name for _, kind in nodes(ast.ClassDef) for part in kind.body if isinstance(part, ast.FunctionDef)]
        for name, node in nodes(ast.Call):
            if isinstance(node.func, ast.Attribute):
                self.assertIn(node.func.attr, METHODS + own, (name, node.lineno))
                if node.func.attr in METHODS and node.func.attr not in own:
                    self.assertEqual(node.keywords, [], (name, node.lineno))
        # A workshop is copied; nothing else is, so that this is told by its name alone.
        for word in own:
            self.assertFalse(word in METHODS and word != "copy", word)
        self.assertEqual([name for name, node in nodes(ast.Call) if called(node) == "copy"], [])

    def test_names_of_methods_are_names_of_no_attributes(self):
        own = [part.name for _, kind in nodes(ast.ClassDef) for part in kind.body if isinstance(part, ast.FunctionDef)]
        stored = [node.attr for _, node in nodes(ast.Attribute) if isinstance(node.ctx, ast.Store)]
        self.assertEqual([word for word in stored if word in own], [])
        for _, node in nodes(ast.Attribute):
            if isinstance(node.value, ast.Name) and node.value.id == "self" and isinstance(node.ctx, ast.Load):
                self.assertTrue(node.attr in stored or node.attr in own, node.attr)

    def test_methods_are_called_where_they_stand(self):
        own = [part.name for _, kind in nodes(ast.ClassDef) for part in kind.body if isinstance(part, ast.FunctionDef)]
        for name, tree in TREES.items():
            calls = [node.func for node in ast.walk(tree) if isinstance(node, ast.Call)]
            for node in ast.walk(tree):
                if isinstance(node, ast.Attribute) and node.attr in own + METHODS and node.attr != "index":
                    self.assertIn(node, calls, (name, node.lineno, node.attr))

    def test_no_string_within_an_f_string(self):
        for name, node in nodes(ast.FormattedValue):
            told = [part for part in ast.walk(node.value) if isinstance(part, ast.Constant) and isinstance(part.value, str)]
            self.assertEqual(told, [], (name, node.lineno))

    def test_methods_and_attributes_of_one_class(self):
        for name, node in nodes(ast.ClassDef):
            methods = [part.name for part in node.body if isinstance(part, ast.FunctionDef)]
            stored = [part.attr for part in ast.walk(node) if isinstance(part, ast.Attribute)
                      and isinstance(part.ctx, ast.Store)]
            self.assertEqual(len(methods), len(set(methods)))
            self.assertEqual([word for word in stored if word in methods + METHODS and word != "index"], [], name)


def targets_of(node):
    """The names that a comprehension assigns."""
    return [one.id for part in node.generators for one in ast.walk(part.target) if isinstance(one, ast.Name)]


class ComprehensionsTest(unittest.TestCase):
    def test_inner_ones_have_names_of_their_own(self):
        kinds = (ast.ListComp, ast.DictComp, ast.SetComp)
        for name, function in nodes(ast.FunctionDef):
            above = parents(function)
            inside = [one for node in ast.walk(function) if isinstance(node, kinds)
                      for part in ast.walk(node) for one in targets_of(node) if part is node]
            plain = [word for word in bound_in(function) if bound_in(function).count(word) > inside.count(word)]
            for node in [one for one in ast.walk(function) if isinstance(one, kinds)]:
                outer = []
                over = above.get(node)
                while over is not None and over is not function:
                    outer.extend(targets_of(over) if isinstance(over, kinds) else [])
                    over = above.get(over)
                if outer:
                    self.assertEqual([word for word in targets_of(node) if word in outer + plain and word != "_"], [],
                                     (name, function.name))


class IterationTest(unittest.TestCase):
    def test_at_once(self):
        for name, tree in TREES.items():
            above = parents(tree)
            for node in ast.walk(tree):
                if called(node) in AT_ONCE:
                    over = above[node]
                    self.assertTrue(isinstance(over, (ast.For, ast.comprehension)) or called(over) in TAKE + ("join",),
                                    (name, node.lineno))

    def test_sets(self):
        for name, tree in TREES.items():
            above = parents(tree)
            for node in ast.walk(tree):
                if called(node) == "set" or isinstance(node, ast.SetComp):
                    self.assertIn(called(above[node]), ("sorted", "len"), (name, node.lineno))
                    self.assertEqual(above[node].keywords, [], (name, node.lineno))

    def test_loops_do_not_change_what_they_go_over(self):
        changing = ("append", "clear", "extend", "insert", "pop", "remove", "reverse", "setdefault", "update")
        for name, node in nodes(ast.For):
            over = node.iter.args[0] if called(node.iter) in AT_ONCE[:3] else node.iter
            over = node.iter.func.value if called(node.iter) in AT_ONCE[4:] else over
            row = ast.unparse(over)
            for part in [one for rows in node.body for one in ast.walk(rows)]:
                if called(part) in changing and isinstance(part.func, ast.Attribute):
                    self.assertNotEqual(ast.unparse(part.func.value), row, (name, part.lineno))
                if isinstance(part, ast.Subscript) and not isinstance(part.ctx, ast.Load):
                    self.assertNotEqual(ast.unparse(part.value), row, (name, part.lineno))


    def test_loops_go_over_no_second_name_of_what_they_change(self):
        # Where a list that grows in a loop is given the name that the loop goes over, the loop goes over a copy.
        for name, function in nodes(ast.FunctionDef):
            for node in [one for one in ast.walk(function) if isinstance(one, ast.For) and isinstance(one.iter, ast.Name)]:
                grown = [ast.unparse(part.func.value) for part in ast.walk(node)
                         if called(part) in ("append", "extend", "insert", "pop") and isinstance(part.func, ast.Attribute)]
                for part in ast.walk(function):
                    if isinstance(part, ast.Assign) and ast.unparse(part.targets[0]) == node.iter.id:
                        self.assertNotIn(ast.unparse(part.value), grown, (name, node.lineno))


class OperatorsTest(unittest.TestCase):
    def test_operators_call_nothing_that_objects_may_hold(self):
        # A call by a name that some object keeps something under counts as a call of what it holds.
        held = [node.attr for _, node in nodes(ast.Attribute) if isinstance(node.ctx, ast.Store)]
        told = {}
        for _, kind in nodes(ast.ClassDef):
            told.setdefault(kind.name, []).extend(one for one in kind.body if getattr(one, "name", "") == "__init__")
        for _, function in nodes(ast.FunctionDef):
            told.setdefault(function.name, []).append(function)
        line = [one for name in DOUBLE if name not in ("__init__", "__iter__") for one in told.get(name, [])]
        seen = []
        while line:
            function = line.pop()
            seen.append(function)
            for node in ast.walk(function):
                if isinstance(node, ast.Call) and isinstance(node.func, ast.Attribute):
                    self.assertNotIn(node.func.attr, held, (function.name, node.lineno))
                line.extend(one for one in told.get(called(node), []) if one not in seen and one not in line)

    def test_what_is_filled_item_by_item_is_handed_to_no_call(self):
        # Operators change only what they created, and this rule tells it of the items of a dict.
        for name, function in nodes(ast.FunctionDef):
            filled = [ast.unparse(one.func.value) for one in ast.walk(function) if called(one) == "setdefault"]
            for node in ast.walk(function):
                if isinstance(node, ast.Call) and called(node) not in ("list", "dict", "len", "enumerate"):
                    for arg in node.args:
                        self.assertNotIn(ast.unparse(arg), filled, (name, node.lineno))


if __name__ == "__main__":
    unittest.main()
