"""The code of the package as a graph: what operators, properties and the like run, through all that they call."""

import ast

OPERATORS = """lt le gt ge ne add sub mul floordiv mod pow and or xor lshift rshift radd rsub rmul rfloordiv rmod rand ror
rxor rlshift rrshift neg pos invert abs bool contains getitem eq str repr len""".split()
LIBRARY = ["gcd", "lcm", "isqrt", "comb", "perm", "factorial", "heappush", "heappop", "product", "combinations"]
MODIFIERS = ["append", "clear", "extend", "insert", "pop", "remove", "reverse", "setdefault", "update", "sort", "add", "discard"]


def decorators_of(function):
    return [one.id if isinstance(one, ast.Name) else one.attr for one in function.decorator_list]


def methods_of(node):
    return [one for one in node.body if isinstance(one, ast.FunctionDef)]


def stored_names(trees):
    """The names that are assigned or deleted as attributes anywhere."""
    return {one.attr for tree in trees.values() for one in ast.walk(tree)
            if isinstance(one, ast.Attribute) and not isinstance(one.ctx, ast.Load)}


def property_names(trees):
    """The names that are properties of some class, with or without a setter."""
    return {one.name for tree in trees.values() for node in ast.walk(tree) if isinstance(node, ast.ClassDef)
            for one in methods_of(node) if {"property", "setter"} & set(decorators_of(one))}


def bound_in(function):
    """The parameters and local variables of a function."""
    given = function.args
    names = {one.arg for one in given.posonlyargs + given.args + given.kwonlyargs}
    names |= {one.arg for one in (given.vararg, given.kwarg) if one}
    return names | {node.id for node in ast.walk(function) if isinstance(node, ast.Name) and isinstance(node.ctx, ast.Store)}


class Graph:
    """The functions and classes of some files, by the names by which each file knows them."""

    def __init__(self, trees):
        self.trees = trees
        self.stored = stored_names(trees)
        self.named = {name: self.names_of(tree) for name, tree in trees.items()}
        self.methods = {}
        for name, tree in trees.items():
            for node in tree.body:
                if isinstance(node, ast.ClassDef):
                    for method in methods_of(node):
                        self.methods.setdefault(method.name, []).append((name, method))

    def names_of(self, tree):
        found = {}
        for node in tree.body:
            if isinstance(node, (ast.FunctionDef, ast.ClassDef)):
                found[node.name] = node
            if isinstance(node, ast.ImportFrom):
                for alias in node.names:
                    found[alias.asname or alias.name] = (node.module, alias.name)
        return found

    def resolved(self, module, name):
        """The pair of a module and the node that a name of a module means, or None."""
        node = self.named[module].get(name)
        if isinstance(node, tuple):
            source = node[0].split(".")[-1]
            return self.resolved(source, node[1]) if source in self.named else None
        return (module, node) if node is not None else None

    def roots(self):
        """What may change nothing, and may call nothing that it holds: operators, properties and the like."""
        for module, tree in self.trees.items():
            for node in tree.body:
                for method in methods_of(node) if isinstance(node, ast.ClassDef) else []:
                    word = method.name[2:-2] if method.name.startswith("__") else ""
                    if word in OPERATORS or "property" in decorators_of(method):
                        yield module, method

    def inits_of(self, module, node):
        """The methods that run when a class is called."""
        own = [(module, one) for one in methods_of(node) if one.name == "__init__"]
        for base in node.bases:
            found = self.resolved(module, base.id)
            if found:
                own += self.inits_of(*found)
        return own

    def called_by(self, module, function):
        """All functions and methods that a function may call."""
        for call in [one for one in ast.walk(function) if isinstance(one, ast.Call)]:
            if isinstance(call.func, ast.Attribute):
                yield from self.methods.get(call.func.attr, [])
            elif isinstance(call.func, ast.Name):
                found = self.resolved(module, call.func.id)
                if found and isinstance(found[1], ast.ClassDef):
                    yield from self.inits_of(*found)
                elif found:
                    yield found

    def run(self):
        """All functions and methods that the roots run, the roots among them."""
        found, rest = {}, list(self.roots())
        while rest:
            module, function = rest.pop()
            if id(function) not in found:
                found[id(function)] = (module, function)
                rest += list(self.called_by(module, function))
        return list(found.values())

    def faults(self):
        """What is wrong in what the roots run: triples of a module, a row and why."""
        for module, function in self.run():
            for row, why in [*self.call_faults(module, function), *self.change_faults(function)]:
                yield module, row, f"{function.name}: {why}"

    def call_faults(self, module, function):
        bound = bound_in(function)
        for call in [one for one in ast.walk(function) if isinstance(one, ast.Call)]:
            if isinstance(call.func, ast.Attribute):
                if call.func.attr in self.stored:
                    yield call.lineno, f"calls .{call.func.attr}(..), a name of an attribute"
            elif not isinstance(call.func, ast.Name):
                yield call.lineno, "calls what a call or an item gives"
            elif call.func.id in bound:
                yield call.lineno, f"calls {call.func.id}, which it holds"

    def change_faults(self, function):
        own = own_lists(function)
        for node in ast.walk(function):
            if isinstance(node, ast.AugAssign):
                yield node.lineno, "changes in place"
            if isinstance(node, ast.Attribute) and not isinstance(node.ctx, ast.Load):
                made = function.name == "__init__" and isinstance(node.value, ast.Name) and node.value.id == "self"
                if not made:
                    yield node.lineno, f"assigns .{node.attr}"
            if isinstance(node, ast.Subscript) and not isinstance(node.ctx, ast.Load):
                if not isinstance(node.value, ast.Name) or node.value.id not in own:
                    yield node.lineno, "assigns an item of what it did not make"
            if isinstance(node, ast.Call) and isinstance(node.func, ast.Attribute) and node.func.attr in MODIFIERS:
                if not isinstance(node.func.value, ast.Name) or node.func.value.id not in own:
                    yield node.lineno, f"calls .{node.func.attr}(..) of what it did not make"


def own_lists(function):
    """The local variables that are assigned nothing but lists and dicts that the function makes."""
    made = {}
    for node in ast.walk(function):
        if isinstance(node, ast.Assign):
            for target in [one for top in node.targets for one in ast.walk(top)
                           if isinstance(one, ast.Name) and isinstance(one.ctx, ast.Store)]:
                new = isinstance(node.value, (ast.List, ast.Dict, ast.ListComp)) and target in node.targets
                new = new or (isinstance(node.value, ast.Call) and isinstance(node.value.func, ast.Name)
                              and node.value.func.id in ("list", "dict", "sorted"))
                made.setdefault(target.id, []).append(new)
        if isinstance(node, (ast.For, ast.comprehension)):
            for one in ast.walk(node.target):
                if isinstance(one, ast.Name):
                    made.setdefault(one.id, []).append(False)
    given = {one.arg for one in function.args.args}
    return {name for name, rows in made.items() if all(rows) and name not in given}
