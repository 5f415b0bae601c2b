"""Checks of the package's code against the rules of LANGUAGE.md that can be checked mechanically."""

import ast
import builtins
import keyword
import os
import re
import unittest

PACKAGE = os.path.join(os.path.dirname(os.path.dirname(os.path.abspath(__file__))), "nonames")
NAMES = sorted(os.listdir(PACKAGE))
FILES = [name for name in NAMES if name.endswith(".py")]
LIBRARY = {"math": {"gcd", "lcm", "isqrt", "comb", "perm", "factorial"}}
PRODUCTS = {"product", "combinations", "permutations"}
CALLED = set("len range enumerate zip min max sum abs sorted reversed int str bool list tuple dict set isinstance ord "
             "repr any all divmod iter NotImplemented".split())
ERRORS = set("Exception ValueError TypeError KeyError IndexError LookupError ZeroDivisionError".split())
DOUBLE = set("init eq repr str len call iter lt add mul sub floordiv and or xor rshift lshift invert bool contains "
             "getitem setitem pow".split())
METHODS = set("append clear copy count endswith extend find get index insert items join keys ljust partition pop remove "
              "replace reverse rjust setdefault split startswith strip update values".split())
TAKEN = METHODS | {"sort", "args", "encode", "decode", "hex", "fromhex", "format", "mro", "format_map"}
BARRED_WORDS = re.compile(r"\b(type|typing|typing_extensions|enum|Enum|IntEnum|StrEnum|Flag|IntFlag|Generic|Protocol|"
                          r"ABC|ABCMeta|namedtuple|NamedTuple|TypedDict|TYPE_CHECKING|abstractmethod)\b")
NEVER = {"register", "mro", "elements", "open", "input", "law", "version_info", "with_traceback", "add_note"}
# The methods of builtin values, whether L25 allows them or not.
BUILT_IN = {name for kind in (str, bytes, int, list, tuple, dict, set) for name in dir(kind)
            if not name.startswith("__") and callable(getattr(kind, name))}
STATEMENTS = (ast.Assign, ast.AugAssign, ast.If, ast.While, ast.For, ast.Return, ast.Break, ast.Continue, ast.Pass,
              ast.Raise, ast.Expr, ast.FunctionDef, ast.ClassDef, ast.ImportFrom, ast.Delete, ast.Try)


def text_of(name):
    with open(os.path.join(PACKAGE, name), encoding="utf-8") as held:
        return held.read()


def functions(tree):
    return [node for node in ast.walk(tree) if isinstance(node, ast.FunctionDef)]


def parameters(function):
    spec = function.args
    plain = spec.posonlyargs + spec.args + spec.kwonlyargs
    return [item.arg for item in plain + [item for item in (spec.vararg, spec.kwarg) if item]]


def bound(function):
    """The names that a function binds: parameters and targets."""
    stored = [node.id for node in ast.walk(function) if isinstance(node, ast.Name) and not isinstance(node.ctx, ast.Load)]
    return set(parameters(function) + stored)


def methods_of(trees):
    """The names of the methods of the package, properties not counted."""
    classes = [node for tree in trees for node in ast.walk(tree) if isinstance(node, ast.ClassDef)]
    return {item.name for node in classes for item in node.body if isinstance(item, ast.FunctionDef)
            if not {"property", item.name + ".setter"} & {ast.unparse(mark) for mark in item.decorator_list}}


def kept_methods(tree, own):
    """The places at which a method stands without being called, except an own method as a `key=`."""
    allowed = {node.func for node in ast.walk(tree) if isinstance(node, ast.Call)}
    allowed |= {node.value for node in ast.walk(tree) if isinstance(node, ast.keyword) and node.arg == "key"
                and isinstance(node.value, ast.Attribute) and node.value.attr in own}
    return [(node.lineno, ast.unparse(node)) for node in ast.walk(tree) if isinstance(node, ast.Attribute)
            and isinstance(node.ctx, ast.Load) and node.attr in own | BUILT_IN and node not in allowed]


class LanguageTest(unittest.TestCase):
    def setUp(self):
        self.trees = {name: ast.parse(text_of(name)) for name in FILES}

    def each(self, *kinds):
        for name, tree in self.trees.items():
            for node in ast.walk(tree):
                if isinstance(node, kinds):
                    yield f"{name}:{getattr(node, 'lineno', 0)}", node

    def test_l1_l14_files(self):
        for name in NAMES:
            if name != "__pycache__":
                self.assertRegex(name, r"^[a-z_0-9]+\.py$")
                self.assertNotIn(name[:-3], dir(builtins))

    def test_l2_l16_imports(self):
        graph = {}
        for name, tree in self.trees.items():
            graph[name] = []
            for node in ast.walk(tree):
                self.assertNotIsInstance(node, ast.Import, name)
                if isinstance(node, ast.ImportFrom):
                    self.assertIn(node, tree.body)
                    names = {alias.name for alias in node.names}
                    self.assertTrue(all(alias.asname is None for alias in node.names), name)
                    if node.module in LIBRARY:
                        self.assertLessEqual(names, LIBRARY[node.module], name)
                        continue
                    self.assertRegex(node.module, r"^nonames\.[a-z]+$")
                    source = node.module.split(".")[1] + ".py"
                    graph[name].append(source)
                    defined = {item.name for item in self.trees[source].body
                               if isinstance(item, (ast.FunctionDef, ast.ClassDef))}
                    defined |= {item.targets[0].id for item in self.trees[source].body if isinstance(item, ast.Assign)}
                    self.assertLessEqual(names, defined, name)
        done = []
        while len(done) < len(graph):
            ready = [name for name in graph if name not in done and set(graph[name]) <= set(done)]
            self.assertTrue(ready, "imports in a circle")
            done += ready

    def test_l2_library_names_are_only_called(self):
        for name, tree in self.trees.items():
            taken = {alias.name for node in tree.body if isinstance(node, ast.ImportFrom) and node.module in LIBRARY
                     for alias in node.names}
            calls = [node.func for node in ast.walk(tree) if isinstance(node, ast.Call)]
            for node in ast.walk(tree):
                if isinstance(node, ast.Name) and node.id in taken:
                    self.assertIn(node, calls, name)
            for node in ast.walk(tree):
                if isinstance(node, ast.Call) and isinstance(node.func, ast.Name) and node.func.id in taken:
                    self.assertFalse(node.keywords, name)

    def test_l2_no_products(self):
        # Spaces, forms, marks, books and desks are iterated over, and groups and bundles have a length.
        for name, tree in self.trees.items():
            self.assertNotIn("itertools", text_of(name))
            for node in ast.walk(tree):
                if isinstance(node, ast.ImportFrom):
                    self.assertFalse(PRODUCTS & {alias.name for alias in node.names}, name)
                elif isinstance(node, ast.Call):
                    called = node.func.id if isinstance(node.func, ast.Name) else getattr(node.func, "attr", "")
                    self.assertNotIn(called, PRODUCTS, f"{name}:{node.lineno}")

    def test_l3_module_level(self):
        for name, tree in self.trees.items():
            for at, node in enumerate(tree.body):
                if isinstance(node, ast.Expr):
                    self.assertTrue(at == 0 and isinstance(node.value, ast.Constant), name)
                elif isinstance(node, ast.Assign):
                    self.assertEqual(len(node.targets), 1)
                    self.assertIsInstance(node.targets[0], ast.Name)
                    self.assertFalse([item for item in ast.walk(node) if isinstance(item, (ast.Call, ast.ListComp))])
                    inner = [item for part in ast.iter_child_nodes(node.value) for item in ast.walk(part)]
                    self.assertFalse([item for item in inner if isinstance(item, (ast.List, ast.Dict))], name)
                else:
                    self.assertIsInstance(node, (ast.FunctionDef, ast.ClassDef, ast.ImportFrom), name)

    def test_l4_l21_functions(self):
        for place, node in self.each(ast.FunctionDef):
            for mark in node.decorator_list:
                self.assertIn(ast.unparse(mark), ("property", "classmethod", "staticmethod", node.name + ".setter"), place)
            self.assertIsNone(node.returns, place)
            for default in node.args.defaults + [item for item in node.args.kw_defaults if item]:
                self.assertIsInstance(default, (ast.Constant, ast.Tuple), place)
        for place, node in self.each(ast.arg):
            self.assertIsNone(node.annotation, place)
        for place, node in self.each(ast.AnnAssign):
            self.fail(place)

    def test_l5_classes(self):
        for place, node in self.each(ast.ClassDef):
            self.assertFalse(node.decorator_list, place)
            methods = [item for item in node.body if isinstance(item, ast.FunctionDef)]
            names = {item.name for item in methods}
            for name in names:
                if name.startswith("__"):
                    self.assertIn(name.strip("_"), DOUBLE, place)
                else:
                    self.assertNotIn(name, TAKEN - METHODS, place)
            attributes = {item.attr for item in ast.walk(node) if isinstance(item, ast.Attribute)
                          and isinstance(item.ctx, ast.Store)}
            self.assertFalse(names & attributes, place)
            self.assertFalse(attributes & TAKEN, place)
            if "__getitem__" in names:
                self.assertIn("__iter__", names, place)
            self.assertFalse({"__iter__", "__len__"} <= names, place)
            for item in methods:
                if item.name == "__iter__":
                    self.assertRegex(ast.unparse(item.body[-1]), r"^return iter\(self\.[a-z_]+(\.[a-z_]+)?\)$")
                if item.name == "__eq__":
                    self.assertRegex(ast.unparse(item.body[-1]), r"^return isinstance\(other, [A-Z]\w+\) and ")
                if item.name == "__bool__":
                    self.assertRegex(ast.unparse(item.body[-1]), r"^return bool\(")

    def test_l5_class_methods_have_names_of_their_own(self):
        marked, other = set(), set()
        for _, node in self.each(ast.ClassDef):
            for item in node.body:
                if isinstance(item, ast.FunctionDef):
                    (marked if item.decorator_list else other).add(item.name)
            other |= {item.attr for item in ast.walk(node) if isinstance(item, ast.Attribute)
                      and isinstance(item.ctx, ast.Store)}
        self.assertFalse(marked & other)

    def test_l5_classes_that_compare(self):
        for place, node in self.each(ast.ClassDef):
            own = {item.name: item for item in node.body if isinstance(item, ast.FunctionDef)}
            if not {"__eq__", "__lt__"} & set(own):
                continue
            self.assertFalse(node.bases, place)
            self.assertFalse({"__ne__", "__le__", "__gt__", "__ge__"} & set(own), place)
            key = re.fullmatch(rf"return isinstance\(other, {node.name}\) and self\.(\w+) == other\.\1",
                               ast.unparse(own["__eq__"].body[-1])).group(1)
            self.assertEqual([ast.unparse(item) for item in own["__lt__"].body],
                             [f"if not isinstance(other, {node.name}):\n    return NotImplemented",
                              f"return self.{key} < other.{key}"], place)
        for place, node in self.each(ast.Name):
            if node.id == "NotImplemented":
                self.assertIn(place.split(":")[0], [name for name, tree in self.trees.items() if "__lt__" in text_of(name)])

    def test_l6_statements(self):
        for place, node in self.each(ast.stmt):
            self.assertIsInstance(node, STATEMENTS, place)
        for place, node in self.each(ast.NamedExpr, ast.GeneratorExp, ast.Lambda, ast.Starred, ast.JoinedStr):
            # The package has lambdas, but only as keys.
            self.assertIsInstance(node, ast.Lambda, place)

    def test_l6_finally(self):
        for place, node in self.each(ast.Try):
            for item in node.finalbody:
                # Only attributes are given back the names that were read before.
                self.assertRegex(ast.unparse(item), r"^[a-z]+\._[a-z]+ = [a-z]+$", place)
            for handler in node.handlers:
                self.assertRegex(ast.unparse(handler.type), r"^No[A-Z][a-z]+$|^NonamesError$", place)

    def test_l7_no_floats(self):
        for place, node in self.each(ast.Constant):
            self.assertIsInstance(node.value, (int, str, bool, type(None)), place)
        for place, node in self.each(ast.Div):
            self.fail(place)

    def test_l8_l15_names(self):
        for name, tree in self.trees.items():
            top = {item.name for item in tree.body if isinstance(item, ast.ClassDef)}
            top |= {alias.name for item in tree.body if isinstance(item, ast.ImportFrom) for alias in item.names}
            for function in functions(tree):
                for own in bound(function):
                    self.assertNotIn(own, dir(builtins), name)
                    self.assertNotIn(own, top, f"{name} {function.name}")
                    self.assertRegex(own, r"^(_|_?[a-zA-Z][a-zA-Z0-9_]*)$")
                    # DOC.md asks for a parameter called `match`; there is no match statement.
                    self.assertNotIn(own, set(keyword.softkwlist) - {"_", "match"}, name)
            everything = [node.name for node in ast.walk(tree) if isinstance(node, (ast.FunctionDef, ast.ClassDef))]
            for own in everything:
                self.assertNotIn(own, dir(builtins), name)
            level = everything + [item.targets[0].id for item in tree.body if isinstance(item, ast.Assign)]
            plain = [item for item in tree.body if isinstance(item, (ast.FunctionDef, ast.ClassDef))]
            self.assertEqual(len({item.name for item in plain}), len(plain), name)
            for own in level:
                self.assertNotIn(own, NEVER)
            words = {node.id for node in ast.walk(tree) if isinstance(node, ast.Name)}
            words |= {node.attr for node in ast.walk(tree) if isinstance(node, ast.Attribute)}
            words |= {own for function in functions(tree) for own in parameters(function)}
            self.assertFalse(words & NEVER, name)

    def test_l8_builtins(self):
        allowed = CALLED | ERRORS | {"True", "False", "None", "property", "classmethod", "staticmethod"}
        for place, node in self.each(ast.Name):
            if isinstance(node.ctx, ast.Load) and node.id in dir(builtins):
                self.assertIn(node.id, allowed, place)

    def test_l10_sizes(self):
        for name in FILES:
            lines = text_of(name).split("\n")
            self.assertLess(len(lines), 400, name)
            self.assertTrue(all(len(line) <= 120 for line in lines), name)
            for function in functions(self.trees[name]):
                self.assertLessEqual(function.end_lineno - function.lineno + 1, 40, function.name)

    def test_l14_characters(self):
        for name in FILES:
            self.assertTrue(all(sign == "\n" or " " <= sign <= "~" for sign in text_of(name)), name)

    def test_l17_words(self):
        for name, tree in self.trees.items():
            documented = [node for node in ast.walk(tree)
                          if isinstance(node, (ast.Module, ast.ClassDef, ast.FunctionDef))]
            code = text_of(name)
            for node in documented:
                if ast.get_docstring(node, clean=False):
                    code = code.replace(ast.get_docstring(node, clean=False), "")
            code = re.sub(r"#.*", "", code)
            self.assertIsNone(BARRED_WORDS.search(code), name)
            for word in ("(type)", "Meta", "metaclass="):
                self.assertNotIn(word, text_of(name))

    def test_l20_is(self):
        for place, node in self.each(ast.Compare):
            for sign, right in zip(node.ops, node.comparators):
                if isinstance(sign, (ast.Is, ast.IsNot)):
                    self.assertIsInstance(right, ast.Constant, place)

    def test_l23_iterated_at_once(self):
        for name, tree in self.trees.items():
            parents = {child: node for node in ast.walk(tree) for child in ast.iter_child_nodes(node)}
            for node in ast.walk(tree):
                if not isinstance(node, ast.Call):
                    continue
                called = node.func.id if isinstance(node.func, ast.Name) else getattr(node.func, "attr", "")
                if called not in ("zip", "enumerate", "reversed", "range", "items", "keys", "values"):
                    continue
                parent = parents[node]
                if isinstance(parent, (ast.For, ast.comprehension)):
                    self.assertIs(parent.iter, node, name)
                else:
                    self.assertIsInstance(parent, ast.Call, f"{name}:{node.lineno}")
                    self.assertIn(parent.func.id, ("list", "tuple", "dict", "sorted", "sum", "enumerate", "zip",
                                                   "reversed"))

    def test_l23_generators(self):
        made = [node.name for _, node in self.each(ast.FunctionDef)
                if any(isinstance(item, (ast.Yield, ast.YieldFrom)) for item in ast.walk(node))]
        self.assertEqual(sorted(made), ["addresses_in", "cycles_of", "pickings", "replies", "road", "tokens_of"])
        names = [node.name for _, node in self.each(ast.FunctionDef)]
        self.assertTrue(all(names.count(own) == 1 for own in made))
        plain = {node.name for tree in self.trees.values() for node in tree.body if isinstance(node, ast.FunctionDef)}
        for name, tree in self.trees.items():
            parents = {child: node for node in ast.walk(tree) for child in ast.iter_child_nodes(node)}
            for node in ast.walk(tree):
                used = isinstance(node, ast.Name) and node.id in made and node.id in plain
                if used or isinstance(node, ast.Attribute) and node.attr in made:
                    call = parents[node]
                    self.assertIsInstance(call, ast.Call, name)
                    parent = parents[call]
                    if isinstance(parent, ast.Call):
                        self.assertIn(parent.func.id, ("list", "tuple", "dict", "enumerate", "zip"), name)
                    else:
                        self.assertIsInstance(parent, (ast.For, ast.comprehension), name)
                        self.assertIs(parent.iter, call)

    def test_l18_methods_and_attributes(self):
        methods = {item.name for _, node in self.each(ast.ClassDef) for item in node.body if isinstance(item, ast.FunctionDef)}
        stored = {node.attr for _, node in self.each(ast.Attribute) if isinstance(node.ctx, ast.Store)}
        values = {item.targets[0].id for _, node in self.each(ast.ClassDef) for item in node.body
                  if isinstance(item, ast.Assign)}
        self.assertFalse(methods & stored)
        self.assertFalse(values & (methods | stored))
        for place, node in self.each(ast.Attribute):
            self.assertIn(node.attr, METHODS | methods | stored | values | {"setter"}, place)

    def test_l24_sets(self):
        for name, tree in self.trees.items():
            parents = {child: node for node in ast.walk(tree) for child in ast.iter_child_nodes(node)}
            for node in ast.walk(tree):
                made = isinstance(node, ast.Call) and isinstance(node.func, ast.Name) and node.func.id == "set"
                if made or isinstance(node, (ast.SetComp, ast.Set)):
                    parent = parents[node]
                    self.assertIsInstance(parent, ast.Call, f"{name}:{node.lineno}")
                    self.assertIn(parent.func.id, ("sorted", "len"))
                    self.assertFalse(parent.keywords)

    def test_l25_methods(self):
        own = {node.name for _, node in self.each(ast.FunctionDef)}
        for place, node in self.each(ast.Call):
            if isinstance(node.func, ast.Attribute):
                self.assertIn(node.func.attr, METHODS | own, place)

    def test_l25_methods_are_called_where_they_stand(self):
        own = methods_of(self.trees.values())
        for name, tree in self.trees.items():
            self.assertEqual(kept_methods(tree, own), [], name)

    def test_l25_kept_methods_are_found(self):
        own = methods_of([ast.parse("class World:\n    def then(self, a, b):\n        return a\n"
                                    "    @property\n    def top(self):\n        return 1\n"
                                    "    @top.setter\n    def top(self, value):\n        return None\n"
                                    "    @staticmethod\n    def told(x):\n        return x")])
        self.assertEqual(own, {"then", "told"})
        for row, kept in (("then = self.lattice.world.then", "self.lattice.world.then"),
                          ("a, b = world.then, 1", "world.then"), ("step = World.told", "World.told"),
                          ("steps = [world.then]", "world.then"), ("self.step = world.then", "world.then"),
                          ("steps = {'a': world.then}", "world.then"), ("go(world.then)", "world.then"),
                          ("go(by=world.then)", "world.then"), ("step = world.then if k else None", "world.then"),
                          ("put = rows.append", "rows.append"), ("xs = sorted(xs, key=rows.index)", "rows.index")):
            self.assertEqual(kept_methods(ast.parse(row), own), [(1, kept)], row)
        for row in ("moved = world.then(a, b)", "xs = [world.then(a, b)]", "rows.append(rows.index(a))",
                    "xs = sorted(xs, key=world.then)", "top = desk.top", "size = desk.size", "desk.top = 1",
                    "def f(world):\n    return world.then(a, b)"):
            self.assertEqual(kept_methods(ast.parse(row), own), [], row)

    def test_l27_strings(self):
        for place, node in self.each(ast.Constant):
            if isinstance(node.value, str):
                self.assertNotIn("%", node.value, place)
        for place, node in self.each(ast.BinOp):
            if isinstance(node.op, ast.Pow):
                self.assertIsInstance(node.right, ast.Constant, place)

    def test_init_only_has_a_docstring(self):
        self.assertEqual(len(self.trees["__init__.py"].body), 1)


if __name__ == "__main__":
    unittest.main()
