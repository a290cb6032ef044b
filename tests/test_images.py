"""Images: answers reckoned from the places of the units, bytes from the bounds that the document tells."""

import copy
import random
import unittest

from rowvault.cuts import Every, Leads, Sizes
from rowvault.errors import BadAmount, BadLayout, BadPlace, BadQuestion, BadTable, BadUnit, Untold
from rowvault.images import Image
from rowvault.kinds import Blocks, Buckets, Cells, Pages, Stripes
from rowvault.layouts import Layout
from rowvault.parts import Part
from rowvault.questions import Question
from rowvault.shapes import Shape
from rowvault.tables import Table
from tests.helpers import OTHER, TWO, Case, any_values, is_int, is_of, is_place
from tests.papers import is_right_parted, tells_all

LAYOUTS = [
    Layout(TWO), Layout(TWO, Pages(1), Buckets(1)), Layout(TWO, Blocks(Every(2)), Pages(1), Cells(2), Buckets(1)),
    Layout(Shape(list("abc"), 2), Blocks(Sizes(1, 2), "days"), Stripes(2, 2), Pages(2)),
    Layout(Shape(list("abc"), 3), Blocks(Leads()), Stripes(3, 2), Buckets(2), Cells(3)),
    Layout(Shape(["a"], 1), Buckets(1)), Layout(Shape(list("ab"), 5), Cells(2), Buckets(2)),
]


def tables(seed, shape, many):
    chance = random.Random(seed)
    for at in range(many):
        most = 10 ** chance.choice([0, 1, 3, 10, 40])
        yield Table(shape, {place: chance.randint(-most, most) for place in shape if chance.random() < 0.8})


def answers_of(layout, table):
    """Each unit's answers, the weights being read one by one."""
    return {unit: tuple(sum(one[place] * table[place] for place in layout.shape) for one in layout[unit])
            for unit in layout.units}


def answers_by_place(layout, table):
    """The answers of blocks, pages, cells and buckets, from the places themselves."""
    shape = layout.shape
    found = {}
    for kind in layout.kinds:
        if kind.WORD == "block":
            for at, block in enumerate(kind.cut(shape, kind.order)):
                found[f"block {at}"] = tuple(table[place] for place in block)
        if kind.WORD == "page":
            keys = shape.key_names
            for at in range(0, len(keys), kind.room):
                found[f"page {at // kind.room}"] = tuple(
                    sum(table[key, day] for day in range(shape.days)) for key in keys[at:at + kind.room])
        if kind.WORD == "bucket":
            for at in range(0, shape.days, kind.width):
                days = range(at, min(at + kind.width, shape.days))
                found[f"bucket {at // kind.width}"] = (sum(table[key, day] for key in shape.key_names for day in days),)
        if kind.WORD == "cell":
            level, width = 1, kind.base
            while width // kind.base < len(shape):
                for at in range(0, len(shape), width):
                    found[f"cell {level} {at // width}"] = (sum(table[p] for p in shape.places[at:at + width]),)
                level, width = level + 1, width * kind.base
    return found


def bytes_of(answers):
    """The bytes of a unit, the bounds being tried one after another."""
    width = next(2 ** k for k in range(20) if all(
        -(2 ** (8 * 2 ** k - 1)) <= answer <= 2 ** (8 * 2 ** k - 1) - 1 for answer in answers))
    return width * len(answers)


class Answers(Case):
    def test_answers_of_a_table(self):
        for layout in LAYOUTS:
            for table in tables(1, layout.shape, 12):
                image = Image(layout, table)
                wanted = answers_of(layout, table)
                for unit in layout:
                    self.same(image[unit], wanted[unit])
                for unit, answers in answers_by_place(layout, table).items():
                    self.same(image[unit], answers)
                self.same(list(image), [(unit, wanted[unit]) for unit in layout.units])
                self.assertIs(image.layout, layout)
                self.assertEqual(image, Image(table=table, layout=layout))
                self.assertTrue(image)

    def test_of(self):
        for layout in LAYOUTS:
            for table in tables(2, layout.shape, 5):
                answers = answers_of(layout, table)
                given = dict(reversed(list(answers.items())))
                image = Image.of(layout=layout, answers=given)
                self.assertEqual(image, Image(layout, table))
                given.clear()
                self.assertEqual(dict(image), answers)
        layout = LAYOUTS[1]
        none = {unit: (at,) for at, unit in enumerate(layout)}
        image = Image.of(layout, none)
        self.same(list(image), [(unit, (at,)) for at, unit in enumerate(layout)])
        self.assertNotEqual(image, Image(layout, Table(TWO)))

    def test_equal_images(self):
        # The same units with the same answers, but of other layouts, or of another shape.
        images = [Image(layout, Table(layout.shape)) for layout in (
            Layout(TWO, Blocks(Every(2))), Layout(TWO, Blocks(Every(2), "days")), Layout(OTHER, Blocks(Every(2))))]
        for one in images:
            for other in images:
                self.assertIs(one == other, one is other)
                self.assertIs(one != other, one is not other)

    def test_of_wrong_answers(self):
        layout = LAYOUTS[2]
        right = answers_of(layout, Table(TWO, {("a", 0): 3}))
        wrong = [value for value in any_values()] + [list(right.items()), {**right, "block 9": (1,)}, {**right, 0: ()}]
        wrong += [{unit: right[unit] for unit in right if unit != left} for left in right]
        wrong += [{(other if unit == "block 0" else unit): right[unit] for unit in right}
                  for other in ("block 2", None, 0, ("block 0",), "journal")]
        for unit in right:
            values = [list(right[unit]), right[unit] + (1,), right[unit][1:], None, 0, (True,) * len(right[unit]),
                      ("1",) * len(right[unit]), (None,) * len(right[unit]), right]
            wrong += [{**right, unit: value} for value in values]
        for value in wrong:
            self.raises(BadTable("answers"), Image.of, layout, value)
        self.raises_first(Image.of, {"layout": layout, "answers": right},
                          [("layout", None, BadLayout("layout")), ("answers", 1, BadTable("answers"))])
        self.assertEqual(Image.of(Layout(TWO), {}), Image(Layout(TWO), Table(TWO)))

    def test_wrong_values(self):
        layout, image = LAYOUTS[2], Image(LAYOUTS[2], Table(TWO))
        for value in any_values():
            if not isinstance(value, Layout):
                self.raises(BadLayout("layout"), Image, value, Table(TWO))
                self.raises(BadLayout("layout"), Image.of, value, {})
            if not is_of(value, Table, TWO):
                self.raises(BadTable("table"), Image, layout, value)
            if not (isinstance(value, str) and value in layout.units):
                self.raises(BadUnit(value), image.__getitem__, value)
                self.raises(BadUnit(value), image.size_of, value)
            if not is_place(value, TWO):
                self.raises(BadPlace(value), image.moved, value, 1)
            if not is_int(value):
                self.raises(BadAmount(value), image.moved, ("a", 0), value)
            self.raises(BadTable("other"), lambda: image + value)
            self.raises(BadTable("other"), lambda: image - value)
            self.raises(BadTable("other"), image.changed_from, value)
            self.assertNotEqual(image, value)
        other = Image(LAYOUTS[1], Table(TWO))
        self.raises(BadTable("other"), lambda: image + other)
        self.raises(BadTable("other"), other.changed_from, image)
        self.raises_first(Image, {"layout": layout, "table": Table(TWO)},
                          [("layout", None, BadLayout("layout")), ("table", Table(OTHER), BadTable("table"))])
        self.raises_first(image.moved, {"place": ("a", 0), "by": 1},
                          [("place", ("a", 2), BadPlace(("a", 2))), ("by", "1", BadAmount("1"))])


class Sums(Case):
    def test_sums_and_moves(self):
        chance = random.Random(3)
        for layout in LAYOUTS:
            for one, two in zip(tables(4, layout.shape, 8), tables(5, layout.shape, 8)):
                first, second = Image(layout, one), Image(layout, two)
                self.assertEqual(first + second, Image(layout, one + two))
                self.assertEqual(first - second, Image(layout, one - two))
                place, by = chance.choice(layout.shape.places), chance.choice([0, 5, -(10 ** 30)])
                moved = first.moved(by=by, place=place)
                self.assertEqual(moved, Image(layout, one.with_amount(place, one[place] + by)))
                touched = layout.touched_by(place) if by else ()
                self.same(moved.changed_from(first), touched)
                wanted = tuple(unit for unit in layout.units if answers_of(layout, one)[unit] != answers_of(layout, two)[unit])
                self.same(first.changed_from(other=second), wanted)
                self.assertEqual(first, Image(layout, one))

    def test_sums_of_answers_of_no_table(self):
        layout = LAYOUTS[1]
        one = Image.of(layout, {"page 0": (1,), "page 1": (2,), "bucket 0": (30,), "bucket 1": (4,)})
        two = Image(layout, Table(TWO, {("b", 1): 5}))
        self.same(list(one + two), [("page 0", (1,)), ("page 1", (7,)), ("bucket 0", (30,)), ("bucket 1", (9,))])
        self.same(list(two - one), [("page 0", (-1,)), ("page 1", (3,)), ("bucket 0", (-30,)), ("bucket 1", (1,))])
        self.same(list(one.moved(("b", 1), 5)), list(one + two))
        self.same(one.changed_from(two), layout.units)


class Sizes_(Case):
    def test_bounds_of_bytes(self):
        layout = Layout(TWO, Blocks(Every(3)), Pages(2))
        for width in (1, 2, 4, 8, 16, 32, 64):
            most = 2 ** (8 * width - 1) - 1
            for amount, wide in ((most, width), (-most - 1, width), (most + 1, 2 * width), (-most - 2, 2 * width)):
                image = Image(layout, Table(TWO, {("a", 1): amount}))
                self.same([image.size_of(unit) for unit in layout.units], [3 * wide, 1, 2 * wide])
                self.same(image.extent, 5 * wide + 1)
        self.same(Image(layout, Table(TWO)).extent, 6)
        self.same(Image(Layout(TWO), Table(TWO)).extent, 0)

    def test_bytes(self):
        for layout in LAYOUTS:
            for table in tables(6, layout.shape, 10):
                image, wanted = Image(layout, table), answers_of(layout, table)
                self.same([image.size_of(unit) for unit in layout.units], [bytes_of(wanted[u]) for u in layout.units])
                self.same(image.extent, sum(bytes_of(wanted[unit]) for unit in layout.units))

    def test_bare(self):
        chance = random.Random(7)
        for layout in LAYOUTS:
            cuts = [kind for kind in layout.kinds if kind.WORD == "block"]
            for _ in range(10):
                table = Table(layout.shape, {place: chance.choice([0, 0, 0, 1]) for place in layout.shape})
                blocks = [block for kind in cuts for block in kind.cut(layout.shape, kind.order)]
                places = [place for block in blocks if not any(table[one] for one in block) for place in block]
                self.assertEqual(Image(layout, table).bare, Part(layout.shape, *places))
        # A block whose answers make 0 together is not bare; other units play no part.
        layout = Layout(TWO, Blocks(Every(2)), Pages(1))
        self.assertEqual(Image(layout, Table(TWO, {("a", 0): 1, ("a", 1): -1})).bare, Part.of_keys(TWO, "b"))
        self.assertEqual(Image(Layout(TWO, Buckets(1)), Table(TWO)).bare, Part(TWO))


class Asked(Case):
    def test_ask_and_table_back(self):
        chance = random.Random(8)
        told = untold = 0
        for layout in LAYOUTS:
            for table in tables(9, layout.shape, 12):
                image = Image(layout, table)
                units = [unit for unit in layout if chance.random() < 0.7]
                units = units + units[:2]
                chance.shuffle(units)
                weights = {place: chance.choice([0, 1, -3]) for place in layout.shape}
                question = Question(layout.shape, weights)
                for some in (units, None):
                    counted = layout.units if some is None else [unit for unit in layout if unit in units]
                    if tells_all(layout, counted, [question]):
                        self.same(image.ask(question, units=some), question(table))
                        told += 1
                    else:
                        error = self.caught(image.ask, question, some)
                        self.assertTrue(is_right_parted(layout, counted, question, error.paper))
                        untold += 1
                    self.table(image, table, some, counted)
        self.assertGreater(min(told, untold), 20)

    def table(self, image, table, some, counted):
        layout, shape = image.layout, image.layout.shape
        first = next((place for place in shape if not tells_all(layout, counted, [Question(shape, {place: 1})])), None)
        if first is None:
            self.assertEqual(image.table_back(some), table)
            return
        error = self.caught(image.table_back, some)
        self.assertTrue(is_right_parted(layout, counted, Question(shape, {first: 1}), error.paper))
        for place in shape.places[:shape.index_of(first)]:
            # The amounts of places ahead are told, so the tables are alike there.
            self.assertEqual(error.paper.one[place], error.paper.other[place])

    def caught(self, call, *given):
        with self.assertRaises(Untold) as held:
            call(*given)
        self.assertIs(type(held.exception), Untold)
        return held.exception

    def test_default_is_all_units(self):
        table = Table(TWO, {("a", 0): 7, ("b", 1): -2})
        image = Image(LAYOUTS[2], table)
        self.assertEqual(image.table_back(), table)
        self.same(image.ask(Question(TWO, {("a", 0): 2, ("b", 1): 1})), 12)
        self.same(image.ask(Question(TWO, {}), []), 0)
        self.same(image.ask(Question(TWO, {}), ()), 0)

    def test_errors(self):
        image = Image(LAYOUTS[2], Table(TWO))
        question = Question(TWO, {("a", 0): 1})
        self.raises_first(image.ask, {"question": question, "units": None},
                          [("units", ["block 0", 5], BadUnit(5)), ("question", Question(OTHER, {}), BadQuestion("question"))])
        for value in any_values():
            if value is not None and not isinstance(value, (list, tuple)):
                self.raises(BadUnit(None), image.ask, question, value)
                self.raises(BadUnit(None), image.table_back, value)
            if not (isinstance(value, str) and value in LAYOUTS[2]):
                self.raises(BadUnit(value), image.ask, question, ["block 0", value])
                self.raises(BadUnit(value), image.table_back, ("block 0", value, 7))
            if not is_of(value, Question, TWO):
                self.raises(BadQuestion("question"), image.ask, value)

    def test_arguments_stay(self):
        table = Table(TWO, {("a", 0): 7})
        image, units = Image(LAYOUTS[2], table), ["page 0", "block 1", "page 0", "bucket 0"]
        kept = list(image)
        image.table_back(units)
        self.same(units, ["page 0", "block 1", "page 0", "bucket 0"])
        self.raises(BadTable("other"), lambda: image + 1)
        self.assertEqual(list(image), kept)
        pairs = list(image)
        pairs.clear()
        self.assertEqual(list(image), kept)
        self.assertEqual(image, copy.copy(image))


if __name__ == "__main__":
    unittest.main()
