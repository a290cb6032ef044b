"""The code of the package as a graph: what operators, properties and the like run, through all that they call.

What is called is followed by its bare name: it stands for all functions, nested ones too, for all methods and for all
classes of that name in all files, whatever a file imports. A call of what has `yield` in it counts as a change.
"""

import ast

OPERATORS = """lt le gt ge ne add sub mul floordiv mod pow and or xor lshift rshift radd rsub rmul rfloordiv rmod rand ror
rxor rlshift rrshift neg pos invert abs bool contains getitem eq str repr len""".split()
HEAPS = ["heappush", "heappop", "heapify", "heapreplace", "heappushpop"]
MODIFIERS = ["append", "clear", "extend", "insert", "pop", "remove", "reverse", "setdefault", "update", "sort", "add", "discard"]


def decorators_of(function):
    return [one.id if isinstance(one, ast.Name) else one.attr for one in function.decorator_list]


def methods_of(node):
    return [one for one in node.body if isinstance(one, ast.FunctionDef)]


def stored_names(trees):
    """The names that are assigned or deleted as attributes anywhere."""
    return {one.attr for tree in trees.values() for one in ast.walk(tree)
            if isinstance(one, ast.Attribute) and not isinstance(one.ctx, ast.Load)}


def property_names(trees):
    """The names that are properties of some class, with or without a setter."""
    return {one.name for tree in trees.values() for node in ast.walk(tree) if isinstance(node, ast.ClassDef)
            for one in methods_of(node) if {"property", "setter"} & set(decorators_of(one))}


def value_names(trees):
    """The names of the values that stand in classes."""
    return {target.id for tree in trees.values() for node in ast.walk(tree) if isinstance(node, ast.ClassDef)
            for one in node.body if isinstance(one, ast.Assign) for target in one.targets}


def bound_in(function):
    """The parameters and local variables of a function, those of what is nested in it among them."""
    names = {node.arg for node in ast.walk(function) if isinstance(node, ast.arg)}
    names |= {node.name for node in ast.walk(function) if isinstance(node, (ast.ExceptHandler, ast.MatchAs, ast.MatchStar))}
    return names | {node.id for node in ast.walk(function) if isinstance(node, ast.Name) and isinstance(node.ctx, ast.Store)}


def has_yield(function):
    return any(isinstance(node, (ast.Yield, ast.YieldFrom)) for node in ast.walk(function))


class Graph:
    """The functions and classes of some files, by their bare names."""

    def __init__(self, trees):
        self.trees = trees
        self.held = stored_names(trees) | property_names(trees) | value_names(trees)
        self.functions, self.classes, self.renamed = {}, {}, {}
        for module, tree in trees.items():
            for node in ast.walk(tree):
                if isinstance(node, ast.FunctionDef):
                    self.functions.setdefault(node.name, []).append((module, node))
                if isinstance(node, ast.ClassDef):
                    self.classes.setdefault(node.name, []).append(node)
                if isinstance(node, ast.alias) and node.asname:
                    self.renamed.setdefault(node.asname, []).append(node.name)

    def roots(self):
        """What may change nothing, and may call nothing that it holds: operators, properties and the like."""
        for module, tree in self.trees.items():
            for node in tree.body:
                for method in methods_of(node) if isinstance(node, ast.ClassDef) else []:
                    word = method.name[2:-2] if method.name.startswith("__") else ""
                    if word in OPERATORS or "property" in decorators_of(method):
                        yield module, method

    def inits_of(self, name):
        """The methods that run when a class of this name is called."""
        for node in self.classes.get(name, []):
            inits = [one for one in methods_of(node) if one.name == "__init__"]
            yield from [pair for pair in self.functions.get("__init__", []) if pair[1] in inits]
            for base in node.bases:
                yield from self.inits_of(base.id)

    def functions_named(self, name):
        """All functions and methods that a bare name stands for."""
        for one in [name, *self.renamed.get(name, [])]:
            yield from self.functions.get(one, [])

    def called_by(self, function):
        """All functions and methods that a function may call, or hand on to what calls them."""
        bound = bound_in(function)
        for node in ast.walk(function):
            if isinstance(node, ast.Call) and isinstance(node.func, (ast.Attribute, ast.Name)):
                name = name_of(node.func)
                yield from self.functions_named(name)
                for one in [name, *self.renamed.get(name, [])]:
                    yield from self.inits_of(one)
            if isinstance(node, ast.keyword) and node.arg == "key" and isinstance(node.value, ast.Attribute):
                yield from self.functions_named(node.value.attr)
            if isinstance(node, ast.Name) and node.id not in bound:
                yield from self.functions_named(node.id)

    def run(self):
        """All functions and methods that the roots run, the roots among them."""
        found, rest = {}, list(self.roots())
        while rest:
            module, function = rest.pop()
            if id(function) not in found:
                found[id(function)] = (module, function)
                rest += list(self.called_by(function))
        return list(found.values())

    def faults(self):
        """What is wrong in what the roots run: triples of a module, a row and why."""
        for module, function in self.run():
            for row, why in [*self.call_faults(function), *change_faults(function)]:
                yield module, row, f"{function.name}: {why}"

    def call_faults(self, function):
        bound = bound_in(function)
        for call in [one for one in ast.walk(function) if isinstance(one, ast.Call)]:
            if not isinstance(call.func, (ast.Attribute, ast.Name)):
                yield call.lineno, "calls what a call or an item gives"
                continue
            name = name_of(call.func)
            if isinstance(call.func, ast.Attribute) and name in self.held:
                yield call.lineno, f"calls .{name}(..), a name of an attribute"
            if isinstance(call.func, ast.Name) and name in bound:
                yield call.lineno, f"calls {name}, which it holds"
            if any(has_yield(one) for _, one in self.functions_named(name)):
                yield call.lineno, f"calls {name}, a name of what has a yield in it"


def name_of(node):
    """The bare name of a name or an attribute."""
    return node.id if isinstance(node, ast.Name) else node.attr


def change_faults(function):
    """What is wrong in a function that changes nothing but what it made: pairs of a row and why."""
    own = own_lists(function)
    for node in ast.walk(function):
        if isinstance(node, ast.AugAssign):
            yield node.lineno, "changes in place"
        if isinstance(node, (ast.Nonlocal, ast.With)):
            yield node.lineno, "may change what stands around it, or what it enters"
        if isinstance(node, ast.Attribute) and not isinstance(node.ctx, ast.Load):
            made = function.name == "__init__" and isinstance(node.value, ast.Name) and node.value.id == "self"
            if not made:
                yield node.lineno, f"assigns .{node.attr}"
        if isinstance(node, ast.Subscript) and not isinstance(node.ctx, ast.Load) and not is_own(node.value, own):
            yield node.lineno, "assigns an item of what it did not make"
        if isinstance(node, ast.Call) and isinstance(node.func, ast.Attribute) and node.func.attr in MODIFIERS:
            if not is_own(node.func.value, own) or node.func.attr in ("sort", "add", "discard"):
                yield node.lineno, f"calls .{node.func.attr}(..) of what it did not make"
        if isinstance(node, ast.Call) and isinstance(node.func, ast.Name) and node.func.id in HEAPS:
            if not is_own(node.args[0], own):
                yield node.lineno, f"calls {node.func.id}(..) of what it did not make"


def is_own(node, own):
    """Whether an expression is the name of a list that its function made."""
    return isinstance(node, ast.Name) and node.id in own


def is_new(value):
    """Whether an expression makes a list or a dict, in a way that may be changed."""
    if isinstance(value, ast.Call):
        return isinstance(value.func, ast.Name) and value.func.id in ("list", "dict", "sorted")
    return isinstance(value, (ast.List, ast.Dict, ast.ListComp))


def own_lists(function):
    """The local variables that are assigned nothing but lists and dicts that the function makes."""
    made = {}
    for node in ast.walk(function):
        if isinstance(node, (ast.Assign, ast.AnnAssign)):
            for target in node.targets if isinstance(node, ast.Assign) else [node.target]:
                if isinstance(target, ast.Name) and is_new(node.value):
                    made[target.id] = made.get(target.id, 0) + 1
    stored = [node.id for node in ast.walk(function) if isinstance(node, ast.Name) and not isinstance(node.ctx, ast.Load)]
    given = {node.arg for node in ast.walk(function) if isinstance(node, ast.arg)}
    # A name that is bound in any other way, too, may be another's.
    return {name for name, times in made.items() if stored.count(name) == times and name not in given}
