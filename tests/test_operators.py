"""What operators and properties run: they change nothing, and call nothing that they hold."""

import ast
import os
import unittest

from tests.code_graph import Graph, property_names, stored_names

FOLDER = os.path.join(os.path.dirname(os.path.dirname(__file__)), "rowvault")


def package():
    found = {}
    for name in sorted(os.listdir(FOLDER)):
        if name.endswith(".py"):
            with open(os.path.join(FOLDER, name), encoding="ascii") as file:
                found[name[:-3]] = ast.parse(file.read())
    return found


def graph_of(*texts):
    return Graph({f"part{at}": ast.parse(text) for at, text in enumerate(texts)})


def both(trees):
    return property_names(trees) & stored_names(trees)


class Package(unittest.TestCase):
    def test_no_property_has_the_name_of_an_attribute(self):
        trees = package()
        self.assertEqual(both(trees), set())
        self.assertTrue({"rows", "kinds", "extent", "bare"} <= property_names(trees))
        self.assertTrue({"shape", "given", "units", "index"} <= stored_names(trees))

    def test_operators_and_properties_change_and_call_nothing(self):
        graph = Graph(package())
        self.assertEqual(list(graph.faults()), [])
        names = {function.name for _, function in graph.run()}
        self.assertTrue({"__init__", "rank", "cleared_at", "units_text", "check_other", "extent", "bare"} <= names)
        self.assertGreater(len(names), 60)


class Found(unittest.TestCase):
    """The look at the code finds what it is made for."""

    def test_properties(self):
        text = "class A:\n    @property\n    def many(self):\n        return 1\n{}"
        setter = "    @many.setter\n    def many(self, value):\n        pass\n"
        other = "class B:\n    def __init__(self, x):\n        {}\n"
        for more in ("", setter):
            for row, found in (("self.many = x", {"many"}), ("x.many, x.few = 1, 2", {"many"}), ("x.many += 1", {"many"}),
                               ("for x.many in x: pass", {"many"}), ("del x.many", {"many"}), ("x = x.many", set())):
                trees = {"a": ast.parse(text.format(more)), "b": ast.parse(other.format(row))}
                self.assertEqual(both(trees), found, row)

    def test_calls(self):
        text = "class A:\n    def __init__(self):\n        self.index = 1\n    def {}:\n        return {}\n{}"
        helper = "def helper(word, rows):\n    return {}\n"
        for row, faults in (("WORDS.index(self)", 1), ("self.rows.count(1)", 0), ("helper(1, 2)", 0), ("self[0](1)", 1),
                            ("self.take()(1)", 1)):
            for head, counts in (("__str__(self)", True), ("__getitem__(self, at)", True), ("__call__(self)", False),
                                 ("__iadd__(self, other)", False), ("plain(self)", False), ("__setitem__(self, at, worth)", False)):
                graph = graph_of(text.format(head, row, ""))
                self.assertEqual(len(list(graph.faults())), faults if counts else 0, (row, head))
        for row, faults in (("rows.index(word)", 1), ("word(rows)", 1), ("len(rows)", 0)):
            graph = graph_of(text.format("__len__(self)", "len(helper(1, 2))", helper.format(row)))
            self.assertEqual(len(list(graph.faults())), faults, row)
            graph = graph_of(helper.format(row), "from rowvault.part0 import helper\n" + text.format("__eq__(self, x)", "helper(1, 2)", ""))
            self.assertEqual(len(list(graph.faults())), faults, row)

    def test_changes(self):
        text = "class A:\n    @property\n    def many(self):\n        return made(self)\n\n\ndef made(x):\n{}\n    return x\n"
        for row, faults in (("    x.few = 1", 1), ("    x[0] = 1", 1), ("    y = []\n    y[0] = 1\n    y.append(2)", 0),
                            ("    y = {k: 1 for k in x}\n    y[0] = 1", 1), ("    x.append(1)", 1), ("    x += 1", 1),
                            ("    y = [k for k in x]\n    y.pop()", 0), ("    y = x\n    y.pop()", 1), ("    del x[0]", 1),
                            ("    y = list(x)\n    y = x\n    y[0] = 1", 1)):
            self.assertEqual(len(list(graph_of(text.format(row)).faults())), faults, row)

    def test_methods_and_classes(self):
        text = ("class B:\n    def __init__(self, x):\n        x.few = 1\n    def told(self):\n        self.few = 2\n"
                "class A(B):\n    def __neg__(self):\n        return {}\n")
        for row, faults in (("A(self)", 1), ("B(self)", 1), ("self.told()", 1), ("self.told", 0), ("-self", 0)):
            self.assertEqual(len(list(graph_of(text.format(row)).faults())), faults, row)


if __name__ == "__main__":
    unittest.main()
