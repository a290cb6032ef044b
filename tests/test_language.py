"""The rules of the language that can be seen from the code, file by file."""

import ast
import builtins
import os
import re
import unittest

ROOT = os.path.dirname(os.path.dirname(__file__))
FOLDER = os.path.join(ROOT, "rowvault")
BUILTINS = """len range enumerate zip min max sum abs sorted reversed int str bool bytes list tuple dict set isinstance
ord repr any all divmod Exception ValueError TypeError KeyError NotImplemented iter next""".split()
ONCE = ["zip", "enumerate", "reversed", "items", "keys", "values"]
TAKERS = ["list", "tuple", "dict", "sorted", "sum", "any", "all", "enumerate", "zip"]
METHODS = """append clear copy count endswith extend find get index insert isalnum isalpha isdigit islower isspace
isupper items join keys ljust lower lstrip partition pop remove replace reverse rfind rjust rpartition rsplit rstrip
setdefault split splitlines startswith strip update upper values zfill bit_length isascii isdecimal""".split()
LIBRARY = {"math": ["gcd", "lcm", "isqrt", "comb", "perm", "factorial"]}
BINARY = """lt le gt ge ne eq add sub mul floordiv mod pow and or xor lshift rshift radd rsub rmul rfloordiv rmod rand ror
rxor iadd isub imul""".split()
SIGNATURES = {f"__{word}__": ["self", "other"] for word in BINARY}
SIGNATURES.update({f"__{word}__": ["self"] for word in "neg pos invert abs bool str repr len iter".split()})
SIGNATURES.update({"__enter__": ["self"], "__exit__": ["self", "kind", "value", "trace"]})
SIGNATURES.update({"__contains__": ["self", "x"], "__getitem__": ["self", "at"], "__setitem__": ["self", "at", "worth"]})
STATEMENTS = (ast.Assign, ast.AugAssign, ast.If, ast.While, ast.For, ast.Return, ast.Break, ast.Continue, ast.Pass,
              ast.Raise, ast.Assert, ast.Delete, ast.Expr, ast.FunctionDef, ast.Try, ast.With)
BARRED = """register mro elements open input law version_info with_traceback add_note attrgetter breakpoint builtins compile
copyright credits delattr dir eval exec exit gc getattr globals hasattr help id importlib license locals methodcaller os
quit setattr super type vars sys""".split()
WORDS = r"\b(type|typing|typing_extensions|enum|Enum|IntEnum|StrEnum|Flag|IntFlag|Generic|Protocol|ABC|ABCMeta|" \
    r"namedtuple|NamedTuple|TypedDict|TYPE_CHECKING|abstractmethod)\b|dataclass|overload|contextmanager|_wall|Meta|%"
# The classes whose objects change behind their making.
CHANGING = ["Bases", "Tree", "Storm", "TellingAll", "Vault", "Course", "Desk"]
MODIFIERS = ["append", "clear", "extend", "insert", "pop", "remove", "reverse", "setdefault", "update", "sort"]


def trees():
    found = {}
    for name in sorted(os.listdir(FOLDER)):
        if name.endswith(".py"):
            with open(os.path.join(FOLDER, name), encoding="ascii") as file:
                text = file.read()
            found[name[:-3]] = (text, ast.parse(text))
    return found


TREES = trees()
FUNCTIONS = [(name, node) for name, (_, tree) in TREES.items()
             for node in ast.walk(tree) if isinstance(node, ast.FunctionDef)]
CLASSES = {node.name: node for _, tree in TREES.values() for node in tree.body if isinstance(node, ast.ClassDef)}


def parents_of(tree):
    return {child: node for node in ast.walk(tree) for child in ast.iter_child_nodes(node)}


def called(node):
    """The name by which a call calls a function or a method."""
    if isinstance(node.func, ast.Name):
        return node.func.id
    return node.func.attr if isinstance(node.func, ast.Attribute) else None


def is_generator(function):
    return any(isinstance(node, (ast.Yield, ast.YieldFrom)) for node in ast.walk(function))


def is_property(function):
    return [one.id for one in function.decorator_list if isinstance(one, ast.Name)] == ["property"]


def bound_names(function):
    """The parameters and local variables of a function."""
    given = function.args
    names = [one.arg for one in given.posonlyargs + given.args + given.kwonlyargs]
    names += [one.arg for one in (given.vararg, given.kwarg) if one]
    names += [node.name for node in ast.walk(function) if isinstance(node, ast.ExceptHandler) and node.name]
    return names + [node.id for node in ast.walk(function)
                    if isinstance(node, ast.Name) and isinstance(node.ctx, ast.Store)]


class Files(unittest.TestCase):
    def test_files(self):
        self.assertIn("__init__", TREES)
        self.assertLessEqual(len(TREES), 100)
        for name, (text, _) in TREES.items():
            self.assertRegex(name, r"^[a-z_][a-z0-9_]*$")
            self.assertNotIn("\t", text)
            self.assertTrue(all(char == "\n" or " " <= char <= "~" for char in text), name)
            lines = text.split("\n")
            self.assertLessEqual(len(lines), 400, name)
            self.assertTrue(all(len(line) <= 120 for line in lines), name)
            self.assertEqual(text.count("\n\n\n\n"), 0, name)

    def test_nothing_else_in_the_folder(self):
        others = [name for name in os.listdir(FOLDER) if not name.endswith(".py") and name != "__pycache__"]
        self.assertEqual(others, [])

    def test_module_level(self):
        kinds = (ast.ImportFrom, ast.FunctionDef, ast.ClassDef, ast.Assign)
        for name, (_, tree) in TREES.items():
            body = tree.body[1:] if ast.get_docstring(tree) else tree.body
            bound = []
            for node in body:
                self.assertIsInstance(node, kinds, (name, node.lineno))
                if isinstance(node, ast.Assign):
                    ast.literal_eval(node.value)
                    self.assertEqual(len(node.targets), 1)
                    bound.append(node.targets[0].id)
                elif isinstance(node, ast.ImportFrom):
                    bound += [alias.name for alias in node.names]
                else:
                    bound.append(node.name)
            self.assertEqual(len(bound), len(set(bound)), name)
            self.assertFalse(set(bound) & set(dir(builtins)), name)

    def test_imports(self):
        edges = {}
        for name, (_, tree) in TREES.items():
            edges[name] = []
            for node in ast.walk(tree):
                self.assertNotIsInstance(node, ast.Import)
                if not isinstance(node, ast.ImportFrom):
                    continue
                self.assertEqual(node.level, 0)
                for alias in node.names:
                    self.assertIsNone(alias.asname)
                    if node.module in LIBRARY:
                        self.assertIn(alias.name, LIBRARY[node.module])
                        continue
                    package, module = node.module.split(".")
                    self.assertEqual(package, "rowvault")
                    edges[name].append(module)
                    defined = [one.name if hasattr(one, "name") else one.targets[0].id for one in TREES[module][1].body
                               if isinstance(one, (ast.ClassDef, ast.FunctionDef, ast.Assign))]
                    self.assertIn(alias.name, defined, name)
                    uses = [one for one in ast.walk(tree) if isinstance(one, ast.Name) and one.id == alias.name]
                    self.assertTrue(uses, (name, alias.name))
        while edges:
            free = [name for name, others in edges.items() if not [one for one in others if one in edges]]
            self.assertTrue(free, edges)
            for name in free:
                del edges[name]


class Names(unittest.TestCase):
    def test_names(self):
        for module, (_, tree) in TREES.items():
            kept = [node.name for node in tree.body if isinstance(node, ast.ClassDef)]
            kept += [alias.name for node in tree.body if isinstance(node, ast.ImportFrom) for alias in node.names]
            for function in [node for node in ast.walk(tree) if isinstance(node, ast.FunctionDef)]:
                for name in bound_names(function):
                    self.assertNotIn(name, kept, (module, function.name))
                    self.assertNotIn(name, dir(builtins), (module, function.name))
                    self.assertNotIn(name, BARRED)
                    self.assertRegex(name, r"^_?[a-z][a-z0-9_]*$|^_$")
                self.assertNotIn(function.name, BARRED)

    def test_names_that_are_read(self):
        for module, (_, tree) in TREES.items():
            top = [getattr(node, "name", None) or node.targets[0].id for node in tree.body
                   if isinstance(node, (ast.FunctionDef, ast.ClassDef, ast.Assign))]
            top += [alias.name for node in tree.body if isinstance(node, ast.ImportFrom) for alias in node.names]
            for function in [node for node in ast.walk(tree) if isinstance(node, ast.FunctionDef)]:
                own = bound_names(function) + top + BUILTINS
                for node in ast.walk(function):
                    if isinstance(node, ast.Name) and isinstance(node.ctx, ast.Load) and node.id not in own:
                        words = ["staticmethod", "classmethod", "property", function.name]
                        self.assertIn(node.id, words, (module, node.lineno))
                    if isinstance(node, ast.Name) and node.id == "_":
                        self.assertIsInstance(node.ctx, ast.Store)

    def test_words_in_files(self):
        for module, (_, tree) in TREES.items():
            docs = [id(node.body[0].value) for node in ast.walk(tree)
                    if isinstance(node, (ast.Module, ast.ClassDef, ast.FunctionDef)) and ast.get_docstring(node)]
            for node in ast.walk(tree):
                if isinstance(node, ast.Constant) and isinstance(node.value, str):
                    self.assertNotIn("%", node.value)
                    if id(node) not in docs:
                        self.assertIsNone(re.search(WORDS, node.value), (module, node.value))
                if isinstance(node, (ast.Name, ast.Attribute)):
                    name = node.id if isinstance(node, ast.Name) else node.attr
                    self.assertIsNone(re.search(WORDS, name), (module, name))
                    self.assertFalse(name.startswith("__") and module != "errors", (module, name))

    def test_methods_attributes_and_generators(self):
        generators = {node.name for _, node in FUNCTIONS if is_generator(node)}
        for module, node in FUNCTIONS:
            if not is_generator(node):
                self.assertNotIn(node.name, generators, module)
        for name, node in CLASSES.items():
            methods = [one.name for one in node.body if isinstance(one, ast.FunctionDef)]
            self.assertEqual(len(methods), len(set(methods)), name)
            stored = [one.attr for one in ast.walk(node) if isinstance(one, ast.Attribute)
                      and isinstance(one.ctx, ast.Store)]
            self.assertFalse(set(methods) & set(stored), name)
            self.assertFalse(generators & set(stored), name)
            self.assertFalse(set(methods + stored) & set(MODIFIERS), name)
            self.assertFalse(set(stored) & {"items", "keys", "values", "args", "format"}, name)

    def test_names_of_static_methods_properties_and_class_values(self):
        rows = [one for node in CLASSES.values() for one in node.body]
        methods = [one for one in rows if isinstance(one, ast.FunctionDef)]
        static = {one.name for one in methods if [d for d in one.decorator_list if isinstance(d, ast.Name)
                                                  and d.id in ("staticmethod", "classmethod")]}
        plain = {one.name for one in methods if not one.decorator_list}
        properties = {one.name for one in methods if is_property(one)}
        values = {one.targets[0].id for one in rows if isinstance(one, ast.Assign)}
        stored = {one.attr for _, tree in TREES.values() for one in ast.walk(tree)
                  if isinstance(one, ast.Attribute) and not isinstance(one.ctx, ast.Load)}
        self.assertFalse(static & (plain | properties | values | stored))
        self.assertFalse(properties & (plain | values | set(METHODS)))
        self.assertFalse(values & (plain | stored))
        self.assertFalse(plain & stored)

    def test_double_underscore_methods_assign_nothing(self):
        for module, node in FUNCTIONS:
            if node.name in ("__eq__", "__str__", "__len__", "__bool__"):
                for one in ast.walk(node):
                    self.assertNotIsInstance(one, (ast.Assign, ast.AugAssign, ast.Delete), (module, node.lineno))

    def test_no_method_is_read_off_a_class(self):
        plain = {one.name for node in CLASSES.values() for one in node.body
                 if isinstance(one, ast.FunctionDef) and not one.decorator_list}
        for module, (_, tree) in TREES.items():
            for node in ast.walk(tree):
                if isinstance(node, ast.Attribute) and isinstance(node.value, ast.Name) and node.value.id in CLASSES:
                    self.assertNotIn(node.attr, plain, module)


class Functions(unittest.TestCase):
    def test_size_and_form(self):
        for module, node in FUNCTIONS:
            self.assertLessEqual(node.end_lineno - node.lineno + 1, 40, (module, node.name))
            decorators = [one.id for one in node.decorator_list if isinstance(one, ast.Name)]
            self.assertIn(decorators, ([], ["property"], ["staticmethod"], ["classmethod"]))
            self.assertEqual(len(decorators), len(node.decorator_list))
            self.assertIsNone(node.returns)
            for default in node.args.defaults:
                ast.literal_eval(default)
            if decorators:
                self.assertFalse(is_generator(node))

    def test_statements(self):
        for module, node in FUNCTIONS:
            for one in ast.walk(node):
                if isinstance(one, ast.stmt):
                    self.assertIsInstance(one, STATEMENTS, (module, one.lineno))
                self.assertNotIsInstance(one, (ast.GeneratorExp, ast.Set, ast.SetComp, ast.Div, ast.Await))
                if isinstance(one, ast.Expr) and not isinstance(one.value, (ast.Call, ast.Yield, ast.YieldFrom)):
                    self.assertIsInstance(one.value, ast.Constant)
                if isinstance(one, ast.Constant):
                    self.assertNotIsInstance(one.value, float)
                if isinstance(one, ast.BinOp) and isinstance(one.op, ast.Pow):
                    self.assertIsInstance(one.right, ast.Constant, (module, one.lineno))
                if isinstance(one, ast.Compare) and isinstance(one.ops[0], (ast.Is, ast.IsNot)):
                    self.assertIsInstance(one.comparators[0], ast.Constant)

    def test_double_underscore_methods(self):
        for module, node in FUNCTIONS:
            if not node.name.startswith("__") or node.name in ("__init__", "__call__"):
                continue
            self.assertEqual([one.arg for one in node.args.args], SIGNATURES[node.name], (module, node.name))
            self.assertFalse(node.args.vararg or node.args.kwarg or node.args.defaults)
            self.assertFalse(is_generator(node))
            returns = [one.value for one in ast.walk(node) if isinstance(one, ast.Return)]
            if node.name in ("__len__", "__str__"):
                self.assertIsInstance(node.body[-1], ast.Return)
            if node.name == "__len__":
                self.assertTrue(all(isinstance(one, ast.Call) and called(one) == "len" for one in returns))
            if node.name == "__str__":
                for one in returns:
                    self.assertIsInstance(one, (ast.Constant, ast.JoinedStr, ast.Call))
                    self.assertTrue(not isinstance(one, ast.Call) or called(one) in ("str", "join"))
                self.assertFalse([one for one in ast.walk(node) if isinstance(one, ast.Add)])
            if node.name == "__iter__":
                self.assertEqual(len(node.body), 1)

    def test_attributes_are_stored_by_init_alone(self):
        for name, node in CLASSES.items():
            if name in CHANGING:
                continue
            for method in [one for one in node.body if isinstance(one, ast.FunctionDef) and one.name != "__init__"]:
                for one in ast.walk(method):
                    if isinstance(one, ast.Attribute):
                        self.assertNotIsInstance(one.ctx, ast.Store, (name, method.name))

    def test_only_own_lists_are_changed(self):
        for module, node in FUNCTIONS:
            literal = {}
            for one in ast.walk(node):
                if isinstance(one, ast.Assign) and isinstance(one.targets[0], ast.Name):
                    made = isinstance(one.value, (ast.List, ast.Dict, ast.ListComp, ast.DictComp))
                    made = made or isinstance(one.value, ast.Call) and called(one.value) in ("list", "dict", "sorted")
                    literal.setdefault(one.targets[0].id, []).append(made)
            changed = [one.value for one in ast.walk(node)
                       if isinstance(one, ast.Subscript) and not isinstance(one.ctx, ast.Load)]
            changed += [one.func.value for one in ast.walk(node)
                        if isinstance(one, ast.Call) and isinstance(one.func, ast.Attribute) and called(one) in MODIFIERS]
            for one in changed:
                if isinstance(one, ast.Attribute) and one.value.id == "self" and one.attr in ("_parteds", "_looks", "_vault"):
                    continue
                self.assertIsInstance(one, ast.Name, (module, node.name))
                if one.id == "vault":
                    # A put, which is what this function is for.
                    self.assertEqual((module, node.name), ("scripts", "do_quietly"))
                    continue
                self.assertTrue(literal.get(one.id) and all(literal[one.id]), (module, node.name, one.id))


class Calls(unittest.TestCase):
    def test_calls(self):
        own = {node.name for _, node in FUNCTIONS} | set(CLASSES)
        for module, (_, tree) in TREES.items():
            for node in [one for one in ast.walk(tree) if isinstance(one, ast.Call)]:
                name = called(node)
                if isinstance(node.func, ast.Attribute):
                    self.assertIn(name, METHODS + sorted(own), (module, node.lineno))
                keywords = sorted(one.arg for one in node.keywords)
                if name in BUILTINS or name in METHODS:
                    self.assertIn((name, keywords), [(name, []), ("min", ["default"]), ("enumerate", ["start"]),
                                                     ("zip", ["strict"]), ("max", ["default"])], module)
                for star in [one for one in node.args if isinstance(one, ast.Starred)]:
                    self.assertIsInstance(star.value, (ast.Name, ast.Attribute), (module, node.lineno))
                    self.assertIn(name, own | {"cls"})

    def test_iterated_at_once(self):
        generators = {node.name for _, node in FUNCTIONS if is_generator(node)}
        for module, (_, tree) in TREES.items():
            parents = parents_of(tree)
            for node in [one for one in ast.walk(tree) if isinstance(one, ast.Call)]:
                if called(node) not in generators | set(ONCE):
                    continue
                parent = parents[node]
                if isinstance(parent, (ast.For, ast.comprehension)):
                    self.assertIs(parent.iter, node)
                elif isinstance(parent, ast.Call):
                    self.assertIn(called(parent), TAKERS, (module, node.lineno))
                else:
                    self.assertIsInstance(parent, ast.YieldFrom, (module, node.lineno))

    def test_orders_take_plain_numbers_and_strings(self):
        plain = ("len", "int", "ord", "str", "repr")
        for module, (_, tree) in TREES.items():
            for node in [one for one in ast.walk(tree) if isinstance(one, ast.Call)]:
                if called(node) not in ("sorted", "min", "max") or not isinstance(node.func, ast.Name):
                    continue
                one = node.args[0]
                one = one.elt if isinstance(one, ast.ListComp) else one
                self.assertTrue(isinstance(one, ast.Call) and called(one) in plain, (module, node.lineno))

    def test_reductions_take_lists(self):
        for module, (_, tree) in TREES.items():
            for node in [one for one in ast.walk(tree) if isinstance(one, ast.Call)]:
                if called(node) in ("any", "all", "sum", "set") and isinstance(node.func, ast.Name):
                    self.assertEqual(len(node.args), 1, (module, node.lineno))
                if called(node) == "set":
                    self.assertEqual(called(parents_of(tree)[node]), "len")

    def test_classes_are_not_passed_on(self):
        for module, (_, tree) in TREES.items():
            parents = parents_of(tree)
            for node in [one for one in ast.walk(tree) if isinstance(one, ast.Name) and one.id in CLASSES]:
                parent = parents[node]
                if isinstance(parent, ast.Call) and parent.func is not node:
                    self.assertEqual((called(parent), parent.args[1]), ("isinstance", node), (module, node.lineno))
                else:
                    kinds = (ast.Call, ast.ClassDef, ast.Raise, ast.Attribute, ast.ExceptHandler)
                    self.assertIsInstance(parent, kinds, module)

    def test_raise_makes_its_error(self):
        for module, node in FUNCTIONS:
            handlers = [one for one in ast.walk(node) if isinstance(one, ast.ExceptHandler)]
            bare = [one.body[-1] for one in handlers]
            for one in handlers:
                self.assertIn(one.type.id, CLASSES)
            for one in [one for one in ast.walk(node) if isinstance(one, ast.Raise)]:
                if one.exc is None:
                    self.assertIn(one, bare, module)
                    continue
                self.assertIsInstance(one.exc, ast.Call, module)
                self.assertIn(one.exc.func.id, [*CLASSES, "TypeError"], module)


if __name__ == "__main__":
    unittest.main()
