"""What operators and properties run: they change nothing, and call nothing that they hold."""

import ast
import os
import unittest

from tests.code_graph import Graph, property_names, stored_names

FOLDER = os.path.join(os.path.dirname(os.path.dirname(__file__)), "rowvault")


def package():
    found = {}
    for name in sorted(os.listdir(FOLDER)):
        if name.endswith(".py"):
            with open(os.path.join(FOLDER, name), encoding="ascii") as file:
                found[name[:-3]] = ast.parse(file.read())
    return found


def graph_of(*texts):
    return Graph({f"part{at}": ast.parse(text) for at, text in enumerate(texts)})


def both(trees):
    return property_names(trees) & stored_names(trees)


class Package(unittest.TestCase):
    def test_no_property_has_the_name_of_an_attribute(self):
        trees = package()
        self.assertEqual(both(trees), set())
        self.assertTrue({"rows", "kinds", "extent", "bare"} <= property_names(trees))
        self.assertTrue({"shape", "given", "units", "index"} <= stored_names(trees))

    def test_operators_and_properties_change_and_call_nothing(self):
        graph = Graph(package())
        self.assertEqual(list(graph.faults()), [])
        names = {function.name for _, function in graph.run()}
        self.assertTrue({"__init__", "rank", "cleared_at", "units_text", "check_other", "extent", "bare"} <= names)
        self.assertTrue({"worked_out", "can_tell", "amount_at", "paper_on", "answer_for"} <= names)
        self.assertGreater(len(names), 60)

    def test_names_that_operators_call_stand_for_nothing_that_changes(self):
        # With the names that these functions had once, the look finds them, in whatever file they are.
        for module, name, once in (("look_scripts", "played_answers", "answers_for"), ("losses", "loss_paper", "paper_on"),
                                   ("layouts", "answers", "answer_for"), ("vaults", "hold", "worked_out"),
                                   ("alike", "tells", "can_tell")):
            trees = package()
            for node in ast.walk(trees[module]):
                if isinstance(node, ast.FunctionDef) and node.name == name:
                    node.name = once
            self.assertNotEqual(list(Graph(trees).faults()), [], (module, name))


class Found(unittest.TestCase):
    """The look at the code finds what it is made for."""

    def test_properties(self):
        text = "class A:\n    @property\n    def many(self):\n        return 1\n{}"
        setter = "    @many.setter\n    def many(self, value):\n        pass\n"
        other = "class B:\n    def __init__(self, x):\n        {}\n"
        for more in ("", setter):
            for row, found in (("self.many = x", {"many"}), ("x.many, x.few = 1, 2", {"many"}), ("x.many += 1", {"many"}),
                               ("for x.many in x: pass", {"many"}), ("del x.many", {"many"}), ("x = x.many", set())):
                trees = {"a": ast.parse(text.format(more)), "b": ast.parse(other.format(row))}
                self.assertEqual(both(trees), found, row)

    def test_calls(self):
        text = "class A:\n    def __init__(self):\n        self.index = 1\n    def {}:\n        return {}\n{}"
        helper = "def helper(word, rows):\n    return {}\n"
        for row, faults in (("WORDS.index(self)", 1), ("self.rows.count(1)", 0), ("helper(1, 2)", 0), ("self[0](1)", 1),
                            ("self.take()(1)", 1)):
            for head, counts in (("__str__(self)", True), ("__getitem__(self, at)", True), ("__call__(self)", False),
                                 ("__iadd__(self, other)", False), ("plain(self)", False), ("__setitem__(self, at, worth)", False)):
                graph = graph_of(text.format(head, row, ""))
                self.assertEqual(len(list(graph.faults())), faults if counts else 0, (row, head))
        for row, faults in (("rows.index(word)", 1), ("word(rows)", 1), ("len(rows)", 0)):
            graph = graph_of(text.format("__len__(self)", "len(helper(1, 2))", helper.format(row)))
            self.assertEqual(len(list(graph.faults())), faults, row)
            graph = graph_of(helper.format(row), "from rowvault.part0 import helper\n" + text.format("__eq__(self, x)", "helper(1, 2)", ""))
            self.assertEqual(len(list(graph.faults())), faults, row)

    def test_changes(self):
        text = "class A:\n    @property\n    def many(self):\n        return made(self)\n\n\ndef made(x):\n{}\n    return x\n"
        for row, faults in (("    x.few = 1", 1), ("    x[0] = 1", 1), ("    y = []\n    y[0] = 1\n    y.append(2)", 0),
                            ("    y = {k: 1 for k in x}\n    y[0] = 1", 1), ("    x.append(1)", 1), ("    x += 1", 1),
                            ("    y = [k for k in x]\n    y.pop()", 0), ("    y = x\n    y.pop()", 1), ("    del x[0]", 1),
                            ("    y = list(x)\n    y = x\n    y[0] = 1", 1), ("    y = []\n    y.sort()", 1),
                            ("    y = []\n    heappush(y, 1)", 0), ("    heappush(x, 1)", 1), ("    with x:\n        pass", 1),
                            ("    y = []\n    for y in x:\n        y.pop()", 1), ("    y = [1]\n    x, y = y, x\n    y.pop()", 1),
                            ("    y = set(x)\n    y.add(1)", 1), ("    y = x | x\n    y[0] = 1", 1),
                            ("    if y := x:\n        y.pop()", 1), ("    y = [1]\n    del y[0]", 0)):
            self.assertEqual(len(list(graph_of(text.format(row)).faults())), faults, row)

    def test_names_stand_for_all_of_that_name(self):
        root = "class A:\n    def {}:\n        return {}\n"
        plain = "def helper(x):\n    return x\n"
        changing = "def helper(x):\n    x.few = 1\n    return x\n"
        method = "class B:\n    def helper(self):\n        self.few = 1\n"
        nested = "def other(x):\n    def helper(y):\n        x.append(y)\n    return helper(x)\n"
        steps = "def helper(x):\n    yield x\n"
        maker = "class helper:\n    def __init__(self, x):\n        x.few = 1\n"
        below = "class B:\n    def __init__(self, x):\n        x.few = 1\n\n\nclass helper(B):\n    pass\n"
        for text, faults in ((plain, 0), (changing, 1), (method, 1), (nested, 1), (steps, 1), (maker, 1), (below, 1)):
            for row, many in (("helper(1)", 1), ("self.row.helper()", 1), ("list(helper(1))", 1), ("self.few", 0),
                              ("[row.helper() for row in self.rows]", 1), ("sorted(self.rows, key=self.helper)", 1)):
                for head in ("__add__(self, other)", "__len__(self)", "__bool__(self)"):
                    # What the file of the operator imports, or has itself, does not matter.
                    for ahead in ("", "from rowvault.part2 import helper\n", plain):
                        graph = graph_of(ahead + root.format(head, row), text, plain)
                        found = faults * many
                        if "key=" in row and text in (steps, maker, below):
                            # A generator is no key, and a class no method.
                            found = 0
                        self.assertEqual(len(list(graph.faults())), found, (text, row, ahead))
            graph = graph_of(root.format("plain(self)", "helper(1)"), text)
            self.assertEqual(list(graph.faults()), [])

    def test_names_that_are_handed_on_or_changed(self):
        root = "{}class A:\n    def __len__(self):\n        return {}\n"
        changing = "def helper(x):\n    x.few = 1\n    return x\n"
        for row, faults in (("len(sorted(self.rows, key=helper))", 1), ("len(list(map(helper, self.rows)))", 1),
                            ("len(helper)", 1), ("len(self.rows)", 0), ("len([1 for helper in self.rows])", 0)):
            self.assertEqual(len(list(graph_of(root.format("", row), changing).faults())), faults, row)
        ahead = "from rowvault.part1 import helper as other\n"
        self.assertEqual(len(list(graph_of(root.format(ahead, "other(1)"), changing).faults())), 1)
        self.assertEqual(len(list(graph_of(root.format("", "other(1)"), changing).faults())), 0)

    def test_paths_that_go_through_other_names(self):
        root = "class A:\n    def __getitem__(self, at):\n        return first(at)\n"
        first = "def first(x):\n    return x.second()\n"
        second = "class B:\n    def second(self):\n        return [one for one in C(self).rows]\n"
        third = "class C:\n    def __init__(self, x):\n        self.rows = list(x.steps(1))\n"
        for last, faults in (("def steps(x):\n    yield x\n", 1), ("def steps(x):\n    return [x]\n", 0),
                             ("class D:\n    def steps(self, x):\n        yield from x\n", 1)):
            graph = graph_of(root, first, second, third, last)
            self.assertEqual([module for module, _, _ in graph.faults()], ["part3"] * faults, last)
        graph = graph_of(root, first, third, "def steps(x):\n    yield x\n")
        self.assertEqual(list(graph.faults()), [])

    def test_values_that_are_held(self):
        text = ("class A:\n    MOST = 1\n    def __init__(self):\n        self.row = 1\n    @property\n    def many(self):\n"
                "        return 1\n    def told(self):\n        return 1\n    def __abs__(self):\n        return {}\n")
        for row, faults in (("self.MOST(1)", 1), ("self.row(1)", 1), ("self.many(1)", 1), ("self.told()", 0),
                            ("(lambda x: x)(1)", 1), ("[f(1) for f in self]", 1), ("len(self)", 0)):
            self.assertEqual(len(list(graph_of(text.format(row)).faults())), faults, row)

    def test_methods_and_classes(self):
        text = ("class B:\n    def __init__(self, x):\n        x.few = 1\n    def told(self):\n        self.few = 2\n"
                "class A(B):\n    def __neg__(self):\n        return {}\n")
        for row, faults in (("A(self)", 1), ("B(self)", 1), ("self.told()", 1), ("self.told", 0), ("-self", 0)):
            self.assertEqual(len(list(graph_of(text.format(row)).faults())), faults, row)


if __name__ == "__main__":
    unittest.main()
