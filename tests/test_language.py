"""Holds the package to the part of Python that it is to be written in, as far as a look at its text can."""

import ast
import builtins
import functools
import os
import re
import unittest

import signpoly

FOLDER = os.path.dirname(os.path.abspath(signpoly.__file__))

STATEMENTS = (ast.Assign, ast.AugAssign, ast.If, ast.While, ast.For, ast.Return, ast.Break, ast.Continue, ast.Pass,
              ast.Raise, ast.Try, ast.ExceptHandler, ast.Expr, ast.FunctionDef, ast.ClassDef, ast.ImportFrom)
EXPRESSIONS = (ast.Constant, ast.List, ast.Tuple, ast.Dict, ast.Set, ast.BinOp, ast.BoolOp, ast.UnaryOp, ast.Compare,
               ast.IfExp, ast.Call, ast.Attribute, ast.Subscript, ast.Slice, ast.ListComp, ast.comprehension, ast.Name,
               ast.Lambda, ast.JoinedStr, ast.FormattedValue, ast.keyword)
OTHERS = (ast.Module, ast.alias, ast.arguments, ast.arg, ast.expr_context, ast.operator, ast.boolop, ast.unaryop,
          ast.cmpop)
BUILT_IN = set("""len range enumerate zip min max sum abs sorted reversed int str bool list tuple dict set frozenset
    isinstance ord repr any all divmod Exception ValueError TypeError KeyError IndexError LookupError
    ZeroDivisionError ArithmeticError OverflowError RuntimeError NotImplementedError AttributeError
    StopIteration""".split())
METHODS = set("""append clear copy count endswith extend find get index insert isalnum isalpha isdigit islower isspace
    isupper items join keys ljust lower lstrip partition pop remove replace reverse rfind rjust rpartition rsplit
    rstrip setdefault split splitlines startswith strip update upper values zfill bit_length __init__""".split())
NOWHERE = re.compile(r"\b(type|typing|typing_extensions|enum|Enum|IntEnum|StrEnum|Flag|IntFlag|Generic|Protocol|ABC|"
                     r"ABCMeta|namedtuple|NamedTuple|TypedDict|TYPE_CHECKING|abstractmethod)\b|"
                     r"dataclass|overload|contextmanager")
NOT_NAMES = set("""register mro elements open input version_info with_traceback add_note attrgetter breakpoint builtins
    compile copyright credits delattr dir eval exec exit gc getattr globals hasattr help id importlib license locals
    methodcaller os quit setattr super vars sys format format_map chr""".split())
WALKED = ("zip", "enumerate", "reversed", "range")
WALKERS = ("list", "tuple", "dict", "sorted", "sum", "any", "all", "enumerate", "zip", "min", "max")


def sources():
    """The files of the package, by name."""
    return {name: os.path.join(FOLDER, name) for name in sorted(os.listdir(FOLDER)) if name != "__pycache__"}


@functools.cache
def parsed():
    """The text and the tree of each file, by name."""
    told = {}
    for name, path in sources().items():
        with open(path, encoding="utf-8", newline="") as file:
            text = file.read()
        told[name] = (text, ast.parse(text))
    return told


def bound_names(tree):
    """Every name that is given a value somewhere, with the row where it stands."""
    for node in ast.walk(tree):
        if isinstance(node, ast.Name) and isinstance(node.ctx, ast.Store):
            yield node.id, node.lineno
        elif isinstance(node, ast.arg):
            yield node.arg, node.lineno
        elif isinstance(node, (ast.FunctionDef, ast.ClassDef)):
            yield node.name, node.lineno
        elif isinstance(node, ast.ExceptHandler) and node.name:
            yield node.name, node.lineno


def with_parents(tree):
    for node in ast.walk(tree):
        for child in ast.iter_child_nodes(node):
            child.above = node
    return ast.walk(tree)


class Language(unittest.TestCase):
    def each_node(self, *kinds):
        for name, (text, tree) in parsed().items():
            for node in with_parents(tree):
                if isinstance(node, kinds):
                    yield f"{name}:{getattr(node, 'lineno', 0)}", node

    def test_files(self):
        self.assertIn("__init__.py", sources())
        for name in sources():
            self.assertRegex(name, r"^([a-z][a-z0-9_]*|__init__|__main__)\.py$")
            self.assertFalse(name[0] != "_" and hasattr(builtins, name[:-3]), name)

    def test_signs_and_size(self):
        for name, (text, tree) in parsed().items():
            self.assertRegex(text, r"\A[ -~\n]*\Z", name)
            rows = text.split("\n")
            self.assertLessEqual(len(rows), 401, name)
            for number, row in enumerate(rows, 1):
                self.assertLessEqual(len(row), 120, f"{name}:{number}")
                self.assertIsNone(NOWHERE.search(row), f"{name}:{number}")

    def test_functions_are_short_and_plain(self):
        for where, node in self.each_node(ast.FunctionDef):
            self.assertLessEqual(node.end_lineno - node.lineno + 1, 40, where)
            self.assertEqual(node.decorator_list, [], where)
            arguments = node.args
            self.assertFalse(arguments.vararg or arguments.kwarg or arguments.kwonlyargs or arguments.posonlyargs, where)

    def test_nodes(self):
        for where, node in self.each_node(ast.AST):
            self.assertIsInstance(node, STATEMENTS + EXPRESSIONS + OTHERS, where)
            self.assertNotIsInstance(node, (ast.Div, ast.MatMult), where)

    def test_statements(self):
        for where, node in self.each_node(ast.Assign, ast.For, ast.While, ast.Try, ast.Expr, ast.ClassDef):
            if isinstance(node, ast.Assign):
                self.assertEqual(len(node.targets), 1, where)
            if isinstance(node, (ast.For, ast.While)):
                self.assertEqual(node.orelse, [], where)
            if isinstance(node, ast.Try):
                self.assertEqual(node.finalbody, [], where)
            if isinstance(node, ast.Expr):
                self.assertIsInstance(node.value, (ast.Call, ast.Constant), where)
            if isinstance(node, ast.ClassDef):
                self.assertLessEqual(len(node.bases), 1, where)
                for part in node.body:
                    self.assertIsInstance(part, (ast.FunctionDef, ast.Expr, ast.Pass), where)

    def test_values(self):
        for where, node in self.each_node(ast.Constant, ast.BinOp, ast.Compare, ast.ListComp, ast.Set):
            if isinstance(node, ast.Constant):
                self.assertIsInstance(node.value, (int, str, bool, type(None)), where)
                self.assertNotIn("%", str(node.value), where)
            if isinstance(node, ast.BinOp) and isinstance(node.op, (ast.Pow, ast.LShift)):
                self.assertIsInstance(node.right, ast.Constant, where)
            if isinstance(node, ast.Compare):
                for sign, right in zip(node.ops, node.comparators):
                    if isinstance(sign, (ast.Is, ast.IsNot)):
                        self.assertIsInstance(right, ast.Constant, where)
                        self.assertIn(right.value, (None, True, False), where)
            if isinstance(node, ast.ListComp):
                self.assertEqual(len(node.generators), 1, where)
                self.assertLessEqual(len(node.generators[0].ifs), 1, where)
            self.assertNotIsInstance(node, ast.Set, where)

    def test_names(self):
        for name, (text, tree) in parsed().items():
            imported = [alias.name for node in tree.body if isinstance(node, ast.ImportFrom) for alias in node.names]
            at_top = [node.name for node in tree.body if isinstance(node, (ast.FunctionDef, ast.ClassDef))]
            at_top += [node.targets[0].id for node in tree.body if isinstance(node, ast.Assign)]
            self.assertEqual(len(at_top + imported), len(set(at_top + imported)), name)
            for bound, row in bound_names(tree):
                if bound in ("__init__", "__eq__", "__repr__", "__str__", "__len__"):
                    continue
                self.assertRegex(bound, r"^[A-Za-z][A-Za-z0-9_]*$", f"{name}:{row}")
                self.assertFalse(hasattr(builtins, bound), f"{name}:{row}: {bound}")
                self.assertNotIn(bound, NOT_NAMES, f"{name}:{row}")
                self.assertNotIn(bound, imported, f"{name}:{row}")

    def test_names_that_are_read(self):
        for where, node in self.each_node(ast.Name, ast.Attribute):
            if isinstance(node, ast.Name):
                self.assertNotIn(node.id, NOT_NAMES, where)
                if hasattr(builtins, node.id):
                    self.assertIn(node.id, BUILT_IN, where)
            else:
                self.assertNotIn(node.attr, NOT_NAMES, where)

    def test_methods(self):
        own = {node.name for where, node in self.each_node(ast.FunctionDef) if isinstance(node.above, ast.ClassDef)}
        for where, node in self.each_node(ast.Call):
            if isinstance(node.func, ast.Attribute):
                self.assertIn(node.func.attr, METHODS | own, where)

    def test_imports(self):
        draws = {}
        for name, (text, tree) in parsed().items():
            draws[name] = []
            for node in ast.walk(tree):
                if not isinstance(node, ast.ImportFrom):
                    continue
                self.assertIn(node, tree.body, name)
                self.assertEqual(node.level, 0, name)
                self.assertRegex(node.module, r"^signpoly\.[a-z_]+$", name)
                source = node.module.split(".")[1] + ".py"
                draws[name].append(source)
                defined = [part.name for part in parsed()[source][1].body
                           if isinstance(part, (ast.FunctionDef, ast.ClassDef))]
                defined += [part.targets[0].id for part in parsed()[source][1].body if isinstance(part, ast.Assign)]
                for alias in node.names:
                    self.assertIn(alias.name, defined, name)
                    self.assertIsNone(alias.asname, name)
                    used = [part for part in ast.walk(tree) if isinstance(part, ast.Name) and part.id == alias.name]
                    self.assertTrue(used, f"{name}: {alias.name} is not used")
        self.assertEqual(draws["__init__.py"], [])
        done = []
        while len(done) < len(draws):
            ready = [name for name in draws if name not in done and all(part in done for part in draws[name])]
            self.assertTrue(ready, "files draw from one another")
            done += ready

    def test_the_top_of_a_file(self):
        for name, (text, tree) in parsed().items():
            above = []
            for place, node in enumerate(tree.body):
                if isinstance(node, (ast.FunctionDef, ast.ClassDef)):
                    above.append(node.name)
                elif isinstance(node, ast.Assign):
                    self.assertIsInstance(node.targets[0], ast.Name, name)
                    for part in ast.walk(node.value):
                        self.assertIsInstance(part, (ast.Constant, ast.Tuple, ast.List, ast.Dict, ast.Name, ast.Load), name)
                        if isinstance(part, ast.Name):
                            self.assertIn(part.id, above, name)
                        if isinstance(part, (ast.List, ast.Dict)):
                            self.assertIs(part, node.value, name)
                elif isinstance(node, ast.Expr):
                    self.assertEqual(place, 0, name)
                else:
                    self.assertIsInstance(node, ast.ImportFrom, name)

    def test_lists_and_dicts_of_the_top_are_only_read(self):
        kept = set()
        for name, (text, tree) in parsed().items():
            kept.update(node.targets[0].id for node in tree.body
                        if isinstance(node, ast.Assign) and isinstance(node.value, (ast.List, ast.Dict)))
        for where, node in self.each_node(ast.Name):
            if node.id not in kept or isinstance(node.ctx, ast.Store):
                continue
            above = node.above
            read = isinstance(above, ast.Subscript) and above.value is node and isinstance(above.ctx, ast.Load)
            asked = isinstance(above, ast.Compare) and node in above.comparators
            got = isinstance(above, ast.Attribute) and above.attr in ("get", "items", "keys", "values")
            self.assertTrue(read or asked or got, f"{where}: {node.id}")

    def test_errors_are_made_and_taken_by_name(self):
        own = {node.name for where, node in self.each_node(ast.ClassDef) if node.bases}
        for where, node in self.each_node(ast.Raise, ast.ExceptHandler):
            if isinstance(node, ast.Raise):
                self.assertIsInstance(node.exc, ast.Call, where)
                self.assertIn(node.exc.func.id, own, where)
            else:
                self.assertIsInstance(node.type, ast.Name, where)
                self.assertIn(node.type.id, own | {"KeyError", "ZeroDivisionError"}, where)

    def test_keywords(self):
        allowed = {"sorted": ("key", "reverse"), "min": ("key", "default"), "max": ("key", "default"), "sum": ("start",),
                   "enumerate": ("start",), "zip": ("strict",)}
        for where, node in self.each_node(ast.Call):
            if node.keywords:
                self.assertIsInstance(node.func, ast.Name, where)
                for keyword in node.keywords:
                    self.assertIn(keyword.arg, allowed.get(node.func.id, ()), where)

    def test_methods_and_values_of_objects(self):
        methods = {node.name for where, node in self.each_node(ast.FunctionDef) if isinstance(node.above, ast.ClassDef)}
        values = {node.attr for where, node in self.each_node(ast.Attribute) if isinstance(node.ctx, ast.Store)}
        self.assertEqual(methods & values, set())
        taken = set().union(*[dir(thing) for thing in ("", 0, [], {}, set(), b"", ())])
        self.assertEqual((methods - {"__init__"} | values) & taken, set())

    def test_what_is_walked_at_once(self):
        for where, node in self.each_node(ast.Call):
            called = node.func.id if isinstance(node.func, ast.Name) else None
            viewed = isinstance(node.func, ast.Attribute) and node.func.attr in ("items", "keys", "values")
            if called not in WALKED and not viewed:
                continue
            above = node.above
            walked = isinstance(above, (ast.For, ast.comprehension)) and above.iter is node
            taken = isinstance(above, ast.Call) and isinstance(above.func, ast.Name) and above.func.id in WALKERS
            self.assertTrue(walked or taken, where)

    def test_sets_are_not_kept(self):
        for where, node in self.each_node(ast.Call):
            if not (isinstance(node.func, ast.Name) and node.func.id in ("set", "frozenset")):
                continue
            above = node.above
            while isinstance(above, ast.BinOp):
                above = above.above
            within = isinstance(above, ast.Call) and isinstance(above.func, ast.Name)
            self.assertTrue(isinstance(above, ast.Compare) or (within and above.func.id in ("sorted", "len")), where)


if __name__ == "__main__":
    unittest.main()
