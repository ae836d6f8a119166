"""Those rules of the language that are plain to check: files, sizes, imports, names, signs."""

import ast
import builtins
import os
import re
import unittest
import warnings

PACKAGE = os.path.join(os.path.dirname(os.path.dirname(os.path.abspath(__file__))), "maybegone")
BUILTINS = (
    "len range enumerate zip min max sum abs sorted reversed int str bool bytes list tuple dict set frozenset isinstance ord "
    "repr any all divmod pow getattr hasattr setattr iter next map super property staticmethod classmethod Exception "
    "ValueError TypeError KeyError IndexError LookupError ZeroDivisionError ArithmeticError OverflowError RuntimeError "
    "NotImplementedError AttributeError StopIteration NotImplemented"
).split()
LIBRARY = {
    "heapq": "heappush heappop heapify heapreplace heappushpop".split(),
    "math": "gcd lcm isqrt comb perm factorial".split(),
    "itertools": "product combinations permutations chain accumulate pairwise islice zip_longest".split(),
    "collections": ["defaultdict"],
}
# No part of a program may be called so (L12, L17).
BARRED = (
    "register mro elements open input law version_info with_traceback add_note attrgetter breakpoint compile copyright "
    "delattr dir eval exec exit gc globals help id importlib license locals methodcaller os quit type vars sys "
    "_cold _tuplegetter _outside _record _written_out _member_names"
).split()
BARRED_WORDS = (
    "typing typing_extensions enum Enum IntEnum StrEnum Flag IntFlag Generic Protocol ABC ABCMeta namedtuple NamedTuple "
    "TypedDict TYPE_CHECKING abstractmethod _wall _WallAttr"
).split()
METHODS = (
    "append clear copy count endswith extend find get index insert isalnum isalpha isdigit islower isspace isupper items join "
    "keys ljust lower lstrip partition pop remove replace reverse rfind rjust rpartition rsplit rstrip setdefault split "
    "splitlines startswith strip update upper values zfill bit_length sort add discard title capitalize removeprefix "
    "removesuffix isascii isdecimal isnumeric format"
).split()
# No attribute may be called so (L26).
NO_ATTRIBUTES = (
    "items keys values pop update append clear extend insert remove reverse setdefault sort args encode decode hex fromhex format"
).split()
# What may iterate over a generator, or over what zip and its like give, at once (L23).
ITERATING = "list tuple dict sorted sum min max any all enumerate zip".split()
VIEWS = ("range", "zip", "enumerate", "reversed", "items", "keys", "values")
STATEMENTS = (ast.FunctionDef, ast.ClassDef, ast.ImportFrom, ast.Assign)
# The methods with double underscores that the package needs, with their parameters.
DOUBLE = {
    "__call__": ["self", "view"], "__len__": ["self"], "__str__": ["self"], "__iter__": ["self"], "__eq__": ["self", "other"], "__and__": ["self", "other"],
    "__or__": ["self", "other"], "__sub__": ["self", "other"], "__iadd__": ["self", "other"], "__isub__": ["self", "other"], "__ior__": ["self", "other"],
    "__getitem__": ["self", "at"], "__setitem__": ["self", "at", "worth"],
}
FORBIDDEN = (
    ast.Global, ast.AsyncFunctionDef, ast.AsyncFor, ast.AsyncWith, ast.Await, ast.Div, ast.MatMult, ast.Import,
)


def sources():
    for folder, folders, files in os.walk(PACKAGE):
        folders[:] = sorted(name for name in folders if name != "__pycache__")
        for name in sorted(files):
            with open(os.path.join(folder, name), encoding="utf-8") as held:
                yield os.path.relpath(os.path.join(folder, name), PACKAGE), held.read()


def trees():
    for name, text in sources():
        yield name, ast.parse(text)


def docstrings(tree):
    """The nodes of the docstrings."""
    found = []
    for node in ast.walk(tree):
        if isinstance(node, (ast.Module, ast.ClassDef, ast.FunctionDef)) and ast.get_docstring(node) is not None:
            found.append(node.body[0].value)
    return found


def names_given(tree):
    """Every name that the file gives to something."""
    for node in ast.walk(tree):
        if isinstance(node, (ast.FunctionDef, ast.ClassDef)):
            yield node.name
        elif isinstance(node, ast.Name) and isinstance(node.ctx, ast.Store):
            yield node.id
        elif isinstance(node, ast.arg):
            yield node.arg
        elif isinstance(node, ast.ExceptHandler) and node.name:
            yield node.name


def called(node):
    """The name that is called, if the node is a call."""
    if isinstance(node, ast.Call):
        return getattr(node.func, "id", getattr(node.func, "attr", None))
    return None


def iterated(tree):
    """The nodes that are iterated at once."""
    for node in ast.walk(tree):
        if isinstance(node, (ast.For, ast.comprehension)):
            yield node.iter
        elif called(node) in ITERATING + ["reversed", "len"] and node.args:
            yield from node.args
        elif isinstance(node, ast.Compare):
            yield from node.comparators


def classes(tree):
    return [node for node in tree.body if isinstance(node, ast.ClassDef)]


def class_values(tree):
    """The assignments of class values."""
    return [node for owner in classes(tree) for node in owner.body if isinstance(node, ast.Assign)]


def is_simple(node):
    """Whether the value may be assigned in a finally; no sums are needed there."""
    return isinstance(node, (ast.Name, ast.Constant)) or isinstance(node, ast.Attribute) and is_simple(node.value)


def methods(tree):
    """The methods of the classes of the file."""
    return [node for owner in tree.body if isinstance(owner, ast.ClassDef) for node in owner.body if isinstance(node, ast.FunctionDef)]


class Language(unittest.TestCase):

    def test_files(self):
        for name, text in sources():
            with self.subTest(name):
                self.assertRegex(name, r"^[a-z0-9_]+\.py$")
                self.assertNotIn("\t", text)
                self.assertTrue(all(sign == "\n" or " " <= sign <= "~" for sign in text))
                self.assertLessEqual(len(text.split("\n")), 399)
                self.assertLessEqual(max(len(line) for line in text.split("\n")), 120)

    def test_functions_are_small(self):
        for name, tree in trees():
            for node in ast.walk(tree):
                if isinstance(node, ast.FunctionDef):
                    self.assertLessEqual(node.end_lineno - node.lineno + 1, 40, (name, node.name))

    def test_module_level(self):
        for name, tree in trees():
            for at, node in enumerate(tree.body):
                docstring = at == 0 and isinstance(node, ast.Expr)
                self.assertTrue(docstring or isinstance(node, STATEMENTS), (name, node.lineno))

    def test_imports(self):
        for name, tree in trees():
            top = True
            for node in tree.body[1:]:
                self.assertTrue(top or not isinstance(node, ast.ImportFrom), name)
                top = top and isinstance(node, ast.ImportFrom)
            for node in ast.walk(tree):
                if isinstance(node, ast.ImportFrom):
                    self.assertEqual(node.level, 0)
                    self.assertEqual([alias.asname for alias in node.names], [None] * len(node.names))
                    allowed = LIBRARY.get(node.module)
                    for alias in node.names:
                        if allowed is None:
                            self.assertTrue(node.module.startswith("maybegone."), (name, node.module))
                            self.assertTrue(self.defines(node.module, alias.name), (name, alias.name))
                        else:
                            self.assertIn(alias.name, allowed)

    def defines(self, module, word):
        """Whether the file defines the name itself."""
        for name, tree in trees():
            if "maybegone." + name[:-3] == module:
                for node in tree.body:
                    if isinstance(node, (ast.FunctionDef, ast.ClassDef)) and node.name == word:
                        return True
                    if isinstance(node, ast.Assign) and node.targets[0].id == word:
                        return True
        return False

    def test_nodes(self):
        for name, tree in trees():
            for node in ast.walk(tree):
                where = (name, getattr(node, "lineno", None))
                self.assertNotIsInstance(node, FORBIDDEN, where)
                if isinstance(node, ast.Constant):
                    self.assertNotIsInstance(node.value, (float, complex), where)
                    if isinstance(node.value, str):
                        self.assertNotIn("%", node.value, where)
                if isinstance(node, ast.FunctionDef):
                    for decorator in node.decorator_list:
                        shown = ast.unparse(decorator)
                        self.assertTrue(shown in ("property", "staticmethod", "classmethod") or shown.endswith(".setter"), where)
                if isinstance(node, ast.ClassDef):
                    self.assertEqual(node.decorator_list, [], where)
                if isinstance(node, ast.Compare):
                    for sign, side in zip(node.ops, node.comparators):
                        if isinstance(sign, (ast.Is, ast.IsNot)):
                            self.assertIsInstance(side, (ast.Constant, ast.Name, ast.Attribute), where)
                if isinstance(node, ast.ExceptHandler):
                    self.assertIsNotNone(node.type, where)

    def test_names(self):
        for name, tree in trees():
            for word in names_given(tree):
                self.assertRegex(word, r"^(_|_?[A-Za-z][A-Za-z0-9_]*|__[a-z]+__)$")
                self.assertNotIn(word, BARRED, name)
                if not word.startswith("__"):
                    self.assertFalse(hasattr(builtins, word), (name, word))

    def test_builtins(self):
        for name, tree in trees():
            for node in ast.walk(tree):
                if isinstance(node, ast.Name) and hasattr(builtins, node.id):
                    self.assertIn(node.id, BUILTINS, (name, node.lineno))

    def test_methods_of_builtin_values(self):
        own = {node.name for _, tree in trees() for node in ast.walk(tree) if isinstance(node, ast.FunctionDef)}
        for name, tree in trees():
            for node in ast.walk(tree):
                if isinstance(node, ast.Call) and isinstance(node.func, ast.Attribute):
                    self.assertTrue(node.func.attr in own or node.func.attr in METHODS, (name, node.lineno))

    def test_words(self):
        for name, text in sources():
            for word in ("dataclass", "overload", "contextmanager"):
                self.assertNotIn(word, text, name)
            words = re.findall(r"\w+", text)
            for word in BARRED_WORDS:
                self.assertNotIn(word, words, name)

    def test_module_level_names_are_bound_once(self):
        for name, tree in trees():
            bound = []
            for node in tree.body:
                if isinstance(node, (ast.FunctionDef, ast.ClassDef)):
                    bound.append(node.name)
                elif isinstance(node, ast.Assign):
                    bound.append(node.targets[0].id)
                elif isinstance(node, ast.ImportFrom):
                    bound.extend(alias.name for alias in node.names)
            self.assertEqual(len(bound), len(set(bound)), name)
            # And no variable has the name of an import or a class.
            taken = [a.name for n in tree.body if isinstance(n, ast.ImportFrom) for a in n.names]
            taken += [n.name for n in tree.body if isinstance(n, ast.ClassDef)]
            inner = [node.id for node in ast.walk(tree) if isinstance(node, ast.Name) and isinstance(node.ctx, ast.Store)]
            inner += [node.arg for node in ast.walk(tree) if isinstance(node, ast.arg)]
            self.assertEqual([word for word in inner if word in taken], [], name)

    def test_everything_is_documented(self):
        for name, tree in trees():
            self.assertIsNotNone(ast.get_docstring(tree), name)
            self.assertTrue(docstrings(tree))

    def test_attributes(self):
        stored = {node.attr for _, tree in trees() for node in ast.walk(tree) if isinstance(node, ast.Attribute) and isinstance(node.ctx, ast.Store)}
        own = {node.name for _, tree in trees() for node in methods(tree)}
        self.assertEqual(stored & set(NO_ATTRIBUTES), set())
        # No name is a method here and an attribute there, though some such cases may stand.
        self.assertEqual(stored & own, set())
        values = {node.targets[0].id for _, tree in trees() for node in class_values(tree)}
        self.assertEqual(values & (stored | own), set())
        stored |= values
        for name, tree in trees():
            for node in ast.walk(tree):
                if isinstance(node, ast.Attribute) and isinstance(node.ctx, ast.Load):
                    self.assertTrue(node.attr in stored | own | set(METHODS) or node.attr == "__init__", (name, node.lineno))

    def test_generators_and_views_are_iterated_at_once(self):
        made = {node.name for _, tree in trees() for node in ast.walk(tree) if isinstance(node, ast.FunctionDef)
                if any(isinstance(inner, (ast.Yield, ast.YieldFrom)) for inner in ast.walk(node))}
        self.assertEqual(made, {"each_statement", "ways", "each_inputs", "each_search", "each_noticed", "each_way"})
        for name, tree in trees():
            at_once = list(iterated(tree))
            for node in ast.walk(tree):
                if called(node) in made or called(node) in VIEWS:
                    self.assertIn(node, at_once, (name, node.lineno))
                self.assertFalse(isinstance(node, ast.Name) and isinstance(node.ctx, ast.Store) and node.id in made, name)

    def test_no_generator_expressions(self):
        for name, tree in trees():
            self.assertFalse([node.lineno for node in ast.walk(tree) if isinstance(node, ast.GeneratorExp)], name)

    def test_what_a_class_with_len_asks_for(self):
        for name, tree in trees():
            for node in ast.walk(tree):
                self.assertNotEqual(called(node), "sort", name)
            for node in methods(tree):
                if node.name == "__len__":
                    returned = [inner.value for inner in ast.walk(node) if isinstance(inner, ast.Return)]
                    self.assertEqual([called(value) for value in returned], ["len"])

    def test_functions_from_tables_have_a_name_when_they_are_called(self):
        for name, tree in trees():
            for node in ast.walk(tree):
                if isinstance(node, ast.Call):
                    self.assertIsInstance(node.func, (ast.Name, ast.Attribute), (name, node.lineno))

    def test_super_calls_a_method(self):
        for name, tree in trees():
            calls = [node.func.value for node in ast.walk(tree) if isinstance(node, ast.Call) and isinstance(node.func, ast.Attribute)]
            for node in ast.walk(tree):
                if called(node) == "super":
                    self.assertIn(node, calls, (name, node.lineno))

    def test_no_file_imports_from_itself_by_way_of_others(self):
        further = {}
        for name, tree in trees():
            modules = [node.module for node in tree.body if isinstance(node, ast.ImportFrom)]
            further["maybegone." + name[:-3]] = [module for module in modules if module not in LIBRARY]
        for start in further:
            left, found = list(further[start]), []
            while left:
                module = left.pop()
                if module not in found:
                    found.append(module)
                    left.extend(further[module])
            self.assertNotIn(start, found)

    def test_bodies_of_classes(self):
        for name, tree in trees():
            for owner in classes(tree):
                for at, node in enumerate(owner.body):
                    shown = (name, owner.name, node.lineno)
                    if isinstance(node, ast.Assign):
                        self.assertIsInstance(node.value, ast.Constant, shown)
                        self.assertEqual(len(node.targets), 1, shown)
                    else:
                        self.assertTrue(isinstance(node, ast.FunctionDef) or at == 0 and isinstance(node, ast.Expr), shown)

    def test_double_underscores(self):
        for name, tree in trees():
            for node in methods(tree):
                if node.name.startswith("__") and node.name != "__init__":
                    self.assertEqual([arg.arg for arg in node.args.args], DOUBLE[node.name], (name, node.name))
                    self.assertFalse(node.args.kwonlyargs or node.args.vararg or node.args.defaults or node.decorator_list)

    def test_what_a_class_with_items_asks_for(self):
        for name, tree in trees():
            for owner in classes(tree):
                own = {node.name: node for node in owner.body if isinstance(node, ast.FunctionDef)}
                if "__getitem__" in own:
                    self.assertEqual([type(node) for node in own["__iter__"].body], [ast.Raise])
                self.assertNotIn("keys", own)
        for name, text in sources():
            for word in ("(type)", "Meta", "metaclass="):
                self.assertNotIn(word, text, name)
            self.assertNotIn("reversed(", text, name)

    def test_no_signs_that_change_what_stands_left_of_them(self):
        # There is a class with such signs of its own.
        for name, tree in trees():
            self.assertFalse([node.lineno for node in ast.walk(tree) if isinstance(node, ast.AugAssign)], name)

    def test_operators_change_nothing(self):
        for name, tree in trees():
            for node in methods(tree):
                if node.name in ("__and__", "__or__", "__sub__", "__getitem__", "__eq__", "__str__", "__len__"):
                    for inner in ast.walk(node):
                        self.assertNotIsInstance(inner, (ast.Assign, ast.Delete, ast.For, ast.While), (name, node.name))

    def test_finally(self):
        for name, tree in trees():
            for node in ast.walk(tree):
                for row in node.finalbody if isinstance(node, ast.Try) else ():
                    self.assertIsInstance(row, ast.Assign, (name, row.lineno))
                    self.assertTrue(is_simple(row.value) and all(is_simple(target) for target in row.targets), (name, row.lineno))

    def test_errors_that_are_caught_are_own_ones(self):
        own = {owner.name for _, tree in trees() for owner in classes(tree)}
        for name, tree in trees():
            for node in ast.walk(tree):
                if isinstance(node, ast.ExceptHandler):
                    caught = node.type.elts if isinstance(node.type, ast.Tuple) else [node.type]
                    self.assertTrue(all(isinstance(one, ast.Name) and one.id in own for one in caught), (name, node.lineno))
                if isinstance(node, ast.Raise) and node.exc is not None:
                    self.assertIn(called(node.exc), own | {"TypeError"}, (name, node.lineno))

    def test_lambdas_and_asserts_are_not_needed(self):
        for name, tree in trees():
            self.assertFalse([node.lineno for node in ast.walk(tree) if isinstance(node, (ast.Lambda, ast.Assert, ast.NamedExpr, ast.Match, ast.With, ast.Nonlocal))], name)

    def test_no_line_with_a_warning(self):
        for name, text in sources():
            with warnings.catch_warnings():
                warnings.simplefilter("error")
                compile(text, name, "exec")

    def test_no_sets_but_in_sorted(self):
        for name, tree in trees():
            at_once = [arg for node in ast.walk(tree) if called(node) in ("sorted", "len") for arg in node.args]
            for node in ast.walk(tree):
                self.assertNotIsInstance(node, (ast.Set, ast.SetComp), name)
                if called(node) == "set":
                    self.assertIn(node, at_once, (name, node.lineno))

    def test_sets_are_not_iterated(self):
        for name, tree in trees():
            for node in ast.walk(tree):
                if isinstance(node, (ast.For, ast.comprehension)):
                    shown = node.iter
                    called = isinstance(shown, ast.Call) and isinstance(shown.func, ast.Name) and shown.func.id in ("set", "frozenset")
                    self.assertFalse(called or isinstance(shown, (ast.Set, ast.SetComp)), name)


if __name__ == "__main__":
    unittest.main()
