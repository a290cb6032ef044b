"""Lookers of readings: right papers, also others than those that the program makes, and papers with one thing otherwise."""

import itertools
import random
import unittest

from rowvault.cuts import Every
from rowvault.errors import BadCount, BadLayout, BadPart, BadQuestion, BadRule, BadUnit, TooMany
from rowvault.kinds import Blocks, Buckets, Cells, Pages
from rowvault.layouts import Layout
from rowvault.look_readings import shows_behind, shows_cheapest, shows_parting, shows_reading
from rowvault.parts import Part
from rowvault.questions import Question
from rowvault.readings import (
    Behind, Cheapest, Cutoff, Enough, Needless, Parting, Reading, Spare, Wanting, least_behind, least_reading,
    parting_of, partings, reading_of, readings,
)
from rowvault.shapes import Shape
from rowvault.tables import Table
from rowvault.told import Parted, Told, told
from tests.helpers import OTHER, TWO, Case, any_values, is_of
from tests.lots import (
    SMALL, Tried, counted, losses_up_to, mattering, prices_for, right_behind, right_cheapest, right_parting,
    right_reading, some_asked,
)
from tests.papers import altered

FULL = Layout(TWO, Blocks(Every(2)), Pages(1), Cells(2), Buckets(1))
AT = Question(TWO, {("a", 0): 1})


class Altered(Case):
    def look(self, shows, right, value):
        """The looker and the test agree; how many were right."""
        wanted = right(value)
        self.assertIs(shows(value), wanted, f"{value!r} {getattr(value, '__dict__', None)}")
        return wanted

    def test_readings_and_partings(self):
        chance = random.Random(1)
        seen = {True: 0, False: 0}
        for layout, question, bare, _ in some_asked(2, 60):
            for _ in range(4):
                lots = list(readings(layout, question, bare)) + list(partings(layout, question, bare))
                units = [unit for unit in layout if chance.random() < 0.5]
                units = list(chance.choice(lots)) if lots and chance.random() < 0.6 else units
                chance.shuffle(units)
                papers = [reading_of(layout, units, question, bare), parting_of(layout, units, question, bare)]
                values = papers + [altered(chance.choice(papers), chance, papers + list(layout.units)) for _ in range(12)]
                for value in values:
                    seen[self.look(lambda one: shows_reading(layout, units, question, one, bare),
                                   lambda one: right_reading(layout, units, question, one, bare), value)] += 1
                    seen[self.look(lambda one: shows_parting(layout, units, question, one, bare),
                                   lambda one: right_parting(layout, units, question, one, bare), value)] += 1
        self.assertGreater(min(seen.values()), 400)

    def test_cheapest(self):
        chance = random.Random(3)
        seen = {True: 0, False: 0}
        for layout, question, bare, units in some_asked(4, 80):
            if not list(readings(layout, question, bare, units)):
                continue
            prices = prices_for(chance, layout)
            paper = least_reading(layout, question, prices.get, bare, units)
            others = [paper, paper.told, paper.tree, paper.units, *counted(layout, units)]
            for value in [paper] + [altered(paper, chance, others) for _ in range(30)]:
                seen[self.look(lambda one: shows_cheapest(layout, question, prices.get, one, bare, units),
                               lambda one: right_cheapest(layout, question, prices, one, bare, units), value)] += 1
        self.assertGreater(min(seen.values()), 60)

    def test_behind(self):
        chance = random.Random(5)
        seen = {True: 0, False: 0}
        for layout, question, _, _ in some_asked(6, 60):
            if not list(readings(layout, question)):
                continue
            prices, many = prices_for(chance, layout), chance.choice([0, 1, 2, 3])
            paper = least_behind(layout, question, prices.get, many)
            others = [paper, paper.lost, *layout.units]
            for value in [paper] + [altered(paper, chance, others) for _ in range(25)]:
                seen[self.look(lambda one: shows_behind(layout, question, prices.get, many, one),
                               lambda one: right_behind(layout, question, prices, many, one), value)] += 1
        self.assertGreater(min(seen.values()), 60)


class Others(Case):
    """Right papers that the program does not make."""

    def test_any_unit(self):
        some = ["block 0", "page 0", "bucket 0"]
        for unit in ("page 0", "bucket 0"):
            rest = [other for other in some if other != unit]
            paper = Needless(unit, told(FULL, rest, AT))
            self.assertIs(shows_reading(FULL, some, AT, paper), True)
        self.assertIs(shows_reading(FULL, some, AT, Needless("block 0", Told(1, {("block 0", 0): 1}))), False)
        self.assertIs(shows_reading(FULL, some, AT, Needless("block 1", Told(1, {("block 0", 0): 1}))), False)
        lot = ["page 0", "page 1", "block 0", "block 1"]
        for unit in ("page 0", "page 1", "block 0"):
            table = Table(TWO, {("a", 0): 1, ("a", 1): -1, ("b", 0): -1, ("b", 1): 1})
            paper = Spare(unit, Parted(Table(TWO), 5 * table))
            self.assertIs(shows_parting(FULL, lot + ["cell 1 0", "cell 1 1"], AT, paper), unit != "block 0")

    def test_a_lot_that_is_no_reading(self):
        free = {unit: 0 if unit.startswith(("page", "bucket", "block 1")) else 9 for unit in FULL}
        paper = least_reading(FULL, AT, free.get)
        more = ("block 1", "page 0", "bucket 0", "bucket 1")
        for units in (more, ("block 1", "bucket 0"), ("block 1", "page 0", "bucket 1")):
            value = Cheapest(units, 0, told(FULL, units, AT), paper.tree)
            self.assertIs(shows_cheapest(FULL, AT, free.get, value), True)
        value = Cheapest(more + ("block 0",), 9, told(FULL, ["block 0"], AT), paper.tree)
        self.assertIs(shows_cheapest(FULL, AT, free.get, value), False)

    def test_another_tree(self):
        one = lambda unit: 1
        lots = [lot for lot in partings(FULL, AT)]
        # At the price 1 a tree has one lot, any parting or a greater lot.
        for lot in lots + [FULL.units, lots[0] + ("bucket 1",)]:
            lot = tuple(unit for unit in FULL if unit in lot)
            parted = told(FULL, [unit for unit in FULL if unit not in lot], AT)
            value = Cheapest(("block 0",), 1, Told(1, {("block 0", 0): 1}), (lot, parted, tuple(None for _ in lot)))
            self.assertIs(shows_cheapest(FULL, AT, one, value), True)
            self.assertTrue(right_cheapest(FULL, AT, dict.fromkeys(FULL, 1), value))
            for tree in ((lot, parted, (None,) * (len(lot) - 1)), (lot[1:], parted, (None,) * (len(lot) - 1)),
                         (lot[::-1], parted, (None,) * len(lot)), (list(lot), parted, (None,) * len(lot)),
                         [lot, parted, (None,) * len(lot)], (lot, Parted(parted.one, parted.one), (None,) * len(lot)),
                         (lot, parted, [None] * len(lot)), (lot, parted), None, (lot, parted, (False,) * len(lot))):
                value = Cheapest(("block 0",), 1, Told(1, {("block 0", 0): 1}), tree)
                wanted = right_cheapest(FULL, AT, dict.fromkeys(FULL, 1), value)
                self.assertIs(shows_cheapest(FULL, AT, one, value), wanted)
        dear = Cheapest(("block 1", "bucket 0"), 2, told(FULL, ["block 1", "bucket 0"], AT), None)
        self.assertIs(shows_cheapest(FULL, AT, one, dear), False)

    def test_any_loss(self):
        one = lambda unit: 1
        paper = least_behind(FULL, AT, one, 1)
        self.same(paper.lost, ("block 0",))
        self.assertIs(shows_behind(FULL, AT, one, 1, paper), True)
        cutoff = least_behind(FULL, AT, one, 2)
        self.same(cutoff.lost, ("block 0", "block 1"))
        self.assertIs(shows_behind(FULL, AT, one, 2, cutoff), True)
        self.assertIs(shows_behind(FULL, AT, one, 1, cutoff), False)
        self.assertIs(shows_behind(FULL, AT, one, 3, cutoff), True)
        for lost in (("block 0", "bucket 0", "bucket 1"), ("block 0", "block 1", "cell 2 0")):
            parted = told(FULL, [unit for unit in FULL if unit not in lost], AT)
            for many in (2, 3):
                self.assertIs(shows_behind(FULL, AT, one, many, Cutoff(lost, parted)), many == 3)
        # Of several losses that are as dear any one is right.
        layout = Layout(TWO, Blocks(Every(1)), Pages(2))
        whole = Question.of(Part.whole(TWO))
        paper = least_behind(layout, Question(TWO, {("a", 0): 1, ("a", 1): 1}), one, 1)
        self.same(paper.price, 2)
        wanted = [right_behind(layout, whole, dict.fromkeys(layout, 1), 1, paper)]
        self.same(wanted, [shows_behind(layout, whole, one, 1, paper)])
        question = Question(TWO, {("a", 0): 1, ("a", 1): 1})
        for lost in losses_up_to(layout, 1):
            left = [unit for unit in layout if unit not in lost]
            value = Behind(2, lost, least_reading(layout, question, one, None, left), paper.lots)
            wanted = right_behind(layout, question, dict.fromkeys(layout, 1), 1, value)
            self.assertIs(shows_behind(layout, question, one, 1, value), wanted)

    def test_dearer_lots_are_let_up_to_the_price(self):
        prices = {unit: 5 if unit == "block 0" else 1 for unit in FULL}
        paper = least_behind(FULL, AT, prices.get, 1)
        lot = ("block 1", "page 0", "bucket 0", "bucket 1")
        lots = {**paper.lots, ("block 0",): (lot, told(FULL, lot, AT))}
        self.assertIs(shows_behind(FULL, AT, prices.get, 1, Behind(5, paper.lost, paper.cheapest, lots)), True)
        lot = lot + ("cell 1 0", "cell 2 0")
        lot = tuple(unit for unit in FULL if unit in lot)
        lots = {**paper.lots, ("block 0",): (lot, told(FULL, lot, AT))}
        self.assertIs(shows_behind(FULL, AT, prices.get, 1, Behind(5, paper.lost, paper.cheapest, lots)), False)


class Wrong(Case):
    def test_any_values(self):
        one = lambda unit: 1
        for value in any_values():
            self.assertIs(shows_reading(FULL, ["block 1"], AT, value), False)
            self.assertIs(shows_parting(FULL, ["block 1"], AT, value), False)
            self.assertIs(shows_cheapest(FULL, AT, one, value), False)
            self.assertIs(shows_behind(FULL, AT, one, 1, value), False)
            for other in any_values():
                for paper in (Reading(value, other, other), Wanting(value), Needless(value, other),
                              Parting(value, other, other), Enough(value), Spare(value, other),
                              Cheapest(value, other, other, other), Behind(other, value, other, other),
                              Cutoff(value, other)):
                    self.assertIs(shows_reading(FULL, ["block 1"], AT, paper), False)
                    self.assertIs(shows_parting(FULL, ["block 1"], AT, paper), False)

    def test_any_values_in_papers_of_prices(self):
        one = lambda unit: 1
        paper, behind = least_reading(FULL, AT, one), least_behind(FULL, AT, one, 1)
        for value in any_values():
            for name in vars(paper):
                other = Cheapest(**{**vars(paper), name: value})
                wanted = right_cheapest(FULL, AT, dict.fromkeys(FULL, 1), other)
                self.assertIs(shows_cheapest(FULL, AT, one, other), wanted)
            for name in vars(behind):
                other = Behind(**{**vars(behind), name: value})
                wanted = right_behind(FULL, AT, dict.fromkeys(FULL, 1), 1, other)
                self.assertIs(shows_behind(FULL, AT, one, 1, other), wanted)

    def test_papers_of_other_lots(self):
        for layout, question, bare, _ in some_asked(7, 25):
            tried = Tried(layout, question, bare, None)
            papers = [(lot, reading_of(layout, lot, question, bare)) for lot in tried.lots[::5]]
            for (one, paper), (other, _) in itertools.product(papers, papers):
                wanted = right_reading(layout, other, question, paper, bare)
                self.assertIs(shows_reading(layout, other, question, paper, bare), wanted)
            papers = [(lot, parting_of(layout, lot, question, bare)) for lot in tried.lots[::5]]
            for (one, paper), (other, _) in itertools.product(papers, papers):
                wanted = right_parting(layout, other, question, paper, bare)
                self.assertIs(shows_parting(layout, other, question, paper, bare), wanted)


class Errors(Case):
    def setUp(self):
        self.good = {"layout": FULL, "units": ["block 0"], "question": AT, "bare": Part(TWO, ("b", 0)),
                     "price": lambda unit: 1, "many": 1, "value": None}
        self.wrong = [("layout", "FULL", BadLayout("layout")), ("units", ["block 0", "block 9"], BadUnit("block 9")),
                      ("question", Question(OTHER, {}), BadQuestion("question")), ("bare", Part(OTHER), BadPart("bare")),
                      ("many", True, BadCount(True)), ("price", lambda unit: -1, BadRule("price"))]
        self.calls = [(shows_reading, "layout units question value bare"), (shows_parting, "layout units question value bare"),
                      (shows_cheapest, "layout question price value bare units"),
                      (shows_behind, "layout question price many value")]

    def test_first_error(self):
        for call, names in self.calls:
            good = {name: self.good[name] for name in names.split()}
            self.raises_first(call, good, [row for row in self.wrong if row[0] in good])

    def test_any_values(self):
        for call, names in self.calls:
            good = {name: self.good[name] for name in names.split()}
            for value in any_values():
                if not isinstance(value, Layout):
                    self.raises(BadLayout("layout"), call, **{**good, "layout": value})
                if not is_of(value, Question, TWO):
                    self.raises(BadQuestion("question"), call, **{**good, "question": value})
                if "bare" in good and value is not None and not is_of(value, Part, TWO):
                    self.raises(BadPart("bare"), call, **{**good, "bare": value})
                if "many" in good and not (type(value) is int and 0 <= value <= 3):
                    self.raises(BadCount(value), call, **{**good, "many": value})
                if "price" in good and not (type(value) is int and 0 <= value <= 10 ** 9):
                    self.raises(BadRule("price"), call, **{**good, "price": lambda unit: value})

    def test_price_is_called_by_lookers(self):
        for shows, given in ((shows_cheapest, (None,)), (shows_behind, (1, None))):
            for layout in SMALL:
                asked = []
                question = Question(layout.shape, {layout.shape.places[0]: 1})
                self.assertIs(shows(layout, question, lambda unit: asked.append(unit) or 1, *given), False)
                self.same(asked, mattering(layout, None, None))
        asked = []
        shows_cheapest(FULL, AT, lambda unit: asked.append(unit) or 1, None, Part.of_keys(TWO, "a"), ["page 0", "page 1"])
        self.same(asked, ["page 1"])

        def price(unit):
            raise KeyError(unit)
        for shows, given in ((shows_cheapest, (None,)), (shows_behind, (1, None))):
            self.assertRaises(KeyError, shows, FULL, AT, price, *given)

    def test_prices_that_cannot_be_called(self):
        for value in (None, True, 0, 5, "", "block 0", (), (1,), [], [len], {}, {"block 0": 1}):
            self.raises(BadRule("price"), shows_cheapest, FULL, AT, value, None)
            self.raises(BadRule("price"), shows_behind, FULL, AT, value, 1, None)

    def test_too_many(self):
        shape = Shape(list("abc"), 4)
        twelve, thirteen = Layout(shape, Blocks(Every(1))), Layout(shape, Blocks(Every(1)), Buckets(4))
        question = Question.of(Part.whole(shape))
        self.assertIs(shows_cheapest(twelve, question, len, least_reading(twelve, question, len)), True)
        self.assertIs(shows_behind(twelve, question, len, 2, least_behind(twelve, question, len, 2)), True)
        self.raises(TooMany("units", 12), shows_cheapest, thirteen, question, self.fail, None)
        self.raises(TooMany("units", 12), shows_behind, thirteen, question, self.fail, 1, None)
        self.raises(BadCount(4), shows_behind, thirteen, question, self.fail, 4, None)
        paper = reading_of(thirteen, twelve.units, question)
        self.assertIs(shows_reading(thirteen, twelve.units, question, paper), True)
        paper = parting_of(thirteen, ["block 3", "bucket 0"], question)
        self.assertIs(shows_parting(thirteen, ["block 3", "bucket 0"], question, paper), True)

    def test_lookers_raise_no_untold(self):
        layout = Layout(TWO, Pages(1), Buckets(1))
        self.assertIs(shows_cheapest(layout, AT, len, None), False)
        self.assertIs(shows_behind(layout, AT, len, 0, None), False)
        # The first loss, of no units, cuts the question off.
        cutoff = Cutoff((), told(layout, layout.units, AT))
        self.assertIs(shows_behind(layout, AT, len, 0, cutoff), True)

    def test_cells_and_units_that_count(self):
        layout = Layout(TWO, Cells(2), Buckets(1))
        question = Question(TWO, {("a", 0): 1, ("a", 1): 1})
        units = ["cell 1 1", "cell 2 0"]
        paper = least_reading(layout, question, len, None, units)
        self.assertIs(shows_cheapest(layout, question, len, paper, None, units), True)
        # With all units there is a cheaper lot, and the Parteds do not part.
        self.assertIs(shows_cheapest(layout, question, len, paper), False)


if __name__ == "__main__":
    unittest.main()
