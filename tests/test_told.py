"""What units tell, reckoned here by ranks over fractions; papers, right ones and wrong ones, and each error."""

import itertools
import random
import unittest

from rowvault.cuts import Every, Leads, Sizes
from rowvault.errors import BadLayout, BadPart, BadQuestion, BadRule, BadTable, BadUnit
from rowvault.kinds import Blocks, Buckets, Cells, Pages, Stripes
from rowvault.layouts import Layout
from rowvault.look_told import shows_parted, shows_told
from rowvault.parts import Part
from rowvault.questions import Question
from rowvault.shapes import Shape
from rowvault.tables import Table
from rowvault.told import Parted, Told, beside, told, told_part, work_out
from tests.helpers import OTHER, TWO, Case, any_values, is_of, rank
from tests.papers import is_right_parted, is_right_told, open_places

LAYOUTS = [
    Layout(TWO), Layout(TWO, Pages(1), Buckets(1)), Layout(TWO, Blocks(Every(2)), Pages(1), Cells(2), Buckets(1)),
    Layout(Shape(list("abc"), 2), Blocks(Sizes(1, 2), "days"), Stripes(2, 2), Pages(2)),
    Layout(Shape(list("abc"), 3), Blocks(Leads()), Stripes(3, 2), Buckets(2), Cells(3)),
    Layout(Shape(["a"], 1), Buckets(1)), Layout(Shape(list("ab"), 5), Cells(2), Buckets(2)),
]


def asked(seed, many):
    """Layouts, units in any order and twice, questions that are told and that are not, with and without bare places."""
    chance = random.Random(seed)
    for _ in range(many):
        layout = chance.choice(LAYOUTS)
        shape = layout.shape
        units = [unit for unit in layout if chance.random() < 0.5]
        units += [chance.choice(units) for _ in range(3)] if units else []
        chance.shuffle(units)
        bare = chance.choice([None, Part(shape), Part(shape, *[place for place in shape if chance.random() < 0.3])])
        weights = {place: chance.choice([0, 0, 1, -2, 10 ** 30]) for place in shape}
        if chance.random() < 0.6:
            total = Question(shape, {})
            for _, question in layout.answers(units):
                total = total + chance.randint(-3, 3) * question
            weights = dict(total.weights)
            if chance.random() < 0.5 and bare is not None:
                weights.update({place: chance.randint(-2, 2) for place in bare})
        yield layout, tuple(units) if chance.random() < 0.5 else units, Question(shape, weights), bare


def rows_at(layout, units, places):
    return [[answer[place] for place in places] for unit in layout if unit in units for answer in layout[unit]]


def is_told(layout, units, question, bare):
    places = open_places(layout.shape, bare)
    rows = rows_at(layout, units, places)
    return rank(rows + [[question[place] for place in places]]) == rank(rows)


def altered(paper, layout):
    """Papers with a unit, an index, a weight, the bottom otherwise, right or wrong."""
    weights = paper.weights
    bottoms = [0, -1, True, None, paper.bottom + 1, -paper.bottom, 3 * paper.bottom, str(paper.bottom), (paper.bottom,)]
    yield from [Told(bottom, weights) for bottom in bottoms]
    yield from [Told(2 * paper.bottom, {key: 2 * weight for key, weight in weights.items()})]
    yield from [Told(paper.bottom, {key: -weight for key, weight in weights.items()})]
    yield from [Told(paper.bottom, other) for other in (None, [], list(weights.items()), tuple(weights), "x", 0)]
    for key, weight in weights.items():
        rest = {other: weights[other] for other in weights if other != key}
        yield Told(paper.bottom, rest)
        for other in (0, True, weight + 1, -weight, None, str(weight), (weight,)):
            yield Told(paper.bottom, {**rest, key: other})
        unit, index = key
        wrong = [(unit, index + 1), (unit, -1), (unit, True), (unit, str(index)), (unit,), (unit, index, 0), unit, None,
                 (index, unit), (unit + " ", index), ("journal", 0), (None, 0), (unit, None)]
        wrong += [(other, 0) for other in layout]
        yield from [Told(paper.bottom, {other: weight, **rest}) for other in wrong]
        yield from [Told(paper.bottom, {**weights, other: 1}) for other in wrong if other not in weights]
    yield from [Told(paper.bottom, {**weights, (unit, index): 0}) for (unit, index), _ in layout.answers()]


class Papers(Case):
    def test_told_and_parted(self):
        found = {True: 0, False: 0}
        for layout, units, question, bare in asked(14, 400):
            kept = list(units)
            paper = told(layout, units, question, bare)
            self.assertEqual(list(units), kept)
            right = is_told(layout, units, question, bare)
            found[right] += 1
            self.assertIs(bool(paper), right)
            self.assertEqual(paper, told(layout, units[::-1], question, bare=bare))
            if right:
                self.assertTrue(is_right_told(layout, units, question, paper, bare))
            else:
                self.assertTrue(is_right_parted(layout, units, question, paper, bare))
            self.assertIs(shows_told(layout, units, question, paper, bare), right)
            self.assertIs(shows_parted(layout, units, question, paper, bare), not right)
        self.assertGreater(min(found.values()), 60)

    def test_told_by_all_or_nothing(self):
        for layout in LAYOUTS:
            nothing = Question(layout.shape, {})
            self.assertEqual(told(layout, [], nothing), Told(1, {}))
            whole = Question.of(Part.whole(layout.shape))
            self.assertEqual(told(layout, [], whole, Part.whole(layout.shape)), Told(1, {}))
            self.assertIs(bool(told(layout, (), whole)), False)

    def test_a_bottom_above_one(self):
        layout = Layout(Shape(["a", "b", "c"], 1), Blocks(Every(1)), Stripes(3, 2))
        paper = told(layout, ["block 1", "parity 0 0", "parity 0 1"], Question(layout.shape, {("c", 0): 1}))
        # The parities tell a + b + c and a + 2 b + 3 c: the latter less the former, less b, is 2 c.
        self.assertEqual(paper, Told(2, {("block 1", 0): -1, ("parity 0 0", 0): -1, ("parity 0 1", 0): 1}))
        self.assertEqual(work_out(paper, {"block 1": (5,), "parity 0 0": (9,), "parity 0 1": (20,)}), 3)

    def test_told_part(self):
        for layout, units, _, bare in asked(15, 120):
            places = [place for place in layout.shape if is_told(layout, units, Question(layout.shape, {place: 1}), bare)]
            self.assertEqual(told_part(layout, units, bare), Part(layout.shape, *places))
            self.assertIs(type(told_part(layout, units)), Part)

    def test_beside(self):
        chance = random.Random(16)
        for layout, units, question, bare in asked(17, 200):
            table = Table(layout.shape, {place: chance.choice([0, 7, -10 ** 20]) for place in layout.shape})
            other = beside(layout, units, question, table, bare)
            if is_told(layout, units, question, bare):
                self.assertIsNone(other)
                continue
            self.assertTrue(is_of(other, Table, layout.shape))
            self.assertNotEqual(question(table), question(other))
            self.assertEqual([table[place] for place in bare or ()], [other[place] for place in bare or ()])
            for _, answer in layout.answers(units):
                self.assertEqual(answer(table), answer(other))

    def test_work_out(self):
        chance = random.Random(18)
        for layout, units, question, bare in asked(19, 200):
            paper = told(layout, units, question, bare)
            if not paper:
                continue
            places = open_places(layout.shape, bare)
            table = Table(layout.shape, {place: chance.randint(-10 ** 6, 10 ** 6) for place in places})
            answers = {unit: tuple(one(table) for one in layout[unit]) for unit in layout}
            self.same(work_out(paper, answers), question(table))
            some = {unit: answers[unit] for unit in units}
            self.same(work_out(paper=paper, answers=some), question(table))

    def test_papers_of_any_values(self):
        for value in any_values():
            for made, fields in ((Told(value, [value]), ("bottom", "weights")), (Parted(value, [value]), ("one", "other"))):
                self.assertIs(getattr(made, fields[0]), value)
                self.same(getattr(made, fields[1]), [value])
                self.assertEqual(made, type(made)(**{fields[1]: [value], fields[0]: value}))
                self.assertEqual(made == value, False)
                self.assertIs(bool(made), type(made) is Told)
        self.assertEqual(Told(True, {}), Told(1, {}))
        self.assertNotEqual(Told(1, {}), Parted(1, {}))


class Lookers(Case):
    def test_altered_tolds(self):
        right = wrong = 0
        for layout, units, question, bare in asked(20, 60):
            paper = told(layout, units, question, bare)
            if not paper:
                paper = told(layout, layout.units, question, bare)
            if not paper:
                continue
            for value in altered(paper, layout):
                wanted = is_right_told(layout, units, question, value, bare)
                self.assertIs(shows_told(layout, units, question, value, bare), wanted)
                self.assertIs(shows_parted(layout, units, question, value, bare), False)
                right, wrong = right + wanted, wrong + (not wanted)
        self.assertGreater(right, 50)
        self.assertGreater(wrong, 1000)

    def test_other_weights(self):
        layout = LAYOUTS[2]
        question = Question(TWO, {("a", 0): 1})
        one = Told(1, {("bucket 0", 0): 1, ("block 1", 0): -1})
        other = Told(2, {("bucket 0", 0): 1, ("block 1", 0): -1, ("block 0", 0): 1})
        for paper in (one, other, Told(10 ** 50, {("block 0", 0): 10 ** 50})):
            self.assertIs(shows_told(layout, ["bucket 0", "block 1", "block 0"], question, paper), True)
        self.assertIs(shows_told(layout, ["bucket 0", "block 1"], question, other), False)
        self.assertIs(shows_told(layout, ["bucket 0", "block 1"], question, one, Part(TWO)), True)

    def test_altered_parteds(self):
        right = wrong = 0
        chance = random.Random(21)
        for layout, units, question, bare in asked(22, 120):
            paper = told(layout, units, question, bare)
            if paper:
                continue
            shape = layout.shape
            some = Table(shape, {place: chance.randint(-3, 3) for place in open_places(layout.shape, bare)})
            papers = [Parted(paper.other, paper.one), Parted(some, some + 3 * paper.other), Parted(some, some)]
            papers += [Parted(one, two) for one in (None, 0, "x", {}, paper, Table(Shape(["z"], 1)), paper.other.amounts)
                       for two in (paper.other, one)]
            papers += [Parted(paper.one.with_amount(place, 1), paper.other) for place in shape]
            papers += [Parted(paper.one, paper.other.with_amount(place, paper.other[place] + 2)) for place in shape]
            papers += [Parted(paper.one.with_amount(place, 1), paper.other + Table(shape, {place: 1})) for place in shape]
            for value in papers:
                wanted = is_right_parted(layout, units, question, value, bare)
                self.assertIs(shows_parted(layout, units, question, value, bare), wanted)
                self.assertIs(shows_told(layout, units, question, value, bare), False)
                right, wrong = right + wanted, wrong + (not wanted)
        self.assertGreater(right, 100)
        self.assertGreater(wrong, 300)

    def test_any_values(self):
        layout, question = LAYOUTS[2], Question(TWO, {("a", 0): 1})
        for units in ([], ["block 0"], layout.units):
            for value in any_values():
                wanted = is_right_told(layout, units, question, value, None)
                self.assertIs(shows_told(layout, units, question, value), wanted)
                self.assertIs(shows_parted(layout, units, question, value), False)
                for other in any_values():
                    self.assertIs(shows_told(layout, units, question, Told(value, other)), False)
                    self.assertIs(shows_parted(layout, units, question, Parted(value, other)), False)


class Errors(Case):
    def setUp(self):
        self.good = {"layout": LAYOUTS[2], "units": ["block 0"], "question": Question(TWO, {("a", 0): 1}),
                     "table": Table(TWO), "bare": Part(TWO, ("b", 0)), "value": Told(1, {})}
        self.wrong = [("layout", None, BadLayout("layout")), ("units", ["block 0", "block 9"], BadUnit("block 9")),
                      ("question", Question(OTHER, {}), BadQuestion("question")),
                      ("table", Table(OTHER), BadTable("table")), ("bare", Part(OTHER), BadPart("bare"))]
        self.calls = [(told, "layout units question bare"), (told_part, "layout units bare"),
                      (beside, "layout units question table bare"), (shows_told, "layout units question value bare"),
                      (shows_parted, "layout units question value bare")]

    def test_first_error(self):
        for call, names in self.calls:
            good = {name: self.good[name] for name in names.split()}
            self.raises_first(call, good, [row for row in self.wrong if row[0] in good])

    def test_any_values(self):
        for call, names in self.calls:
            good = {name: self.good[name] for name in names.split()}
            for name, value in itertools.product(good, any_values()):
                error = self.error(name, value)
                if error is not None:
                    self.raises(error, call, **{**good, name: value})

    def error(self, name, value):
        """The error of any value for a parameter, or None."""
        if name == "layout":
            return None if isinstance(value, Layout) else BadLayout("layout")
        if name == "units":
            if not isinstance(value, (list, tuple)):
                return BadUnit(None)
            return BadUnit(value[0]) if value else None
        if name == "question":
            return None if is_of(value, Question, TWO) else BadQuestion("question")
        if name == "table":
            return None if is_of(value, Table, TWO) else BadTable("table")
        if name == "bare":
            return None if value is None or is_of(value, Part, TWO) else BadPart("bare")
        return None

    def test_units(self):
        layout, question = LAYOUTS[2], self.good["question"]
        for value in any_values():
            if not (isinstance(value, str) and value in layout):
                self.raises(BadUnit(value), told, layout, ["block 0", value, "x"], question)
                self.raises(BadUnit(value), told_part, layout, ("block 0", value, "x"))
        self.raises(BadUnit("journal"), told, layout, ["journal"], question)

    def test_work_out(self):
        for value in any_values():
            if not isinstance(value, Told):
                self.raises(BadRule("paper"), work_out, value, {})


if __name__ == "__main__":
    unittest.main()
