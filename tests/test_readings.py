"""Readings, partings, musts and prices, against a search through all lots."""

import itertools
import random
import unittest

from rowvault.cuts import Every, Leads
from rowvault.errors import BadCount, BadLayout, BadPart, BadQuestion, BadRule, BadUnit, TooMany, Untold
from rowvault.kinds import Blocks, Buckets, Cells, Pages, Stripes
from rowvault.layouts import Layout
from rowvault.parts import Part
from rowvault.questions import Question
from rowvault.readings import (
    Behind, Cheapest, Cutoff, Enough, Needless, Parting, Reading, Spare, Wanting, least_behind, least_reading, musts,
    parting_of, partings, reading_of, readings,
)
from rowvault.shapes import Shape
from rowvault.told import Parted
from tests.helpers import OTHER, TWO, Case, any_values, is_of
from tests.lots import (
    SMALL, THREE, Tried, counted, losses_up_to, mattering, prices_for, right_behind, right_cheapest, right_parting,
    right_reading, some_asked,
)
from tests.papers import all_lots, is_right_parted, tells_all

FULL = Layout(TWO, Blocks(Every(2)), Pages(1), Cells(2), Buckets(1))
AT = Question(TWO, {("a", 0): 1})


class Lots(Case):
    def test_all_readings_and_partings(self):
        many = {}
        for layout, question, bare, units in some_asked(1, 160):
            tried = Tried(layout, question, bare, units)
            self.same(list(readings(layout, question, bare, units)), tried.readings())
            self.same(list(partings(layout, question, bare=bare, units=units)), tried.partings())
            if tried.musts() is None:
                with self.assertRaises(Untold) as held:
                    musts(layout, question, bare, units)
                self.assertTrue(is_right_parted(layout, tried.units, question, held.exception.paper, bare))
            else:
                self.same(musts(layout, question, bare=bare, units=units), tried.musts())
            key = min(len(tried.readings()), 3)
            many[key] = many.get(key, 0) + 1
        self.assertGreater(min(many[at] for at in range(4)), 5)

    def test_all_places_of_a_layout(self):
        for place in TWO:
            question = Question(TWO, {place: 1})
            tried = Tried(FULL, question, None, None)
            self.same(list(readings(FULL, question)), tried.readings())
            self.same(list(partings(layout=FULL, question=question)), tried.partings())

    def test_each_lot_is_one_or_is_none(self):
        kinds = {}
        for layout, question, bare, _ in some_asked(2, 24, SMALL[1:8]):
            tried = Tried(layout, question, bare, None)
            for lot in tried.lots:
                units = list(lot[::-1]) + list(lot[:1])
                self.reading(tried, lot, reading_of(layout, units, question, bare), kinds)
                self.parting(tried, lot, parting_of(layout, tuple(units), question, bare=bare), kinds)
        for kind in (Reading, Wanting, Needless, Parting, Enough, Spare):
            self.assertGreater(kinds[kind], 10, kind)

    def reading(self, tried, lot, paper, kinds):
        kinds[type(paper)] = kinds.get(type(paper), 0) + 1
        self.assertTrue(right_reading(tried.layout, lot, tried.question, paper, tried.bare))
        self.assertIs(bool(paper), lot in tried.readings())
        if not tried.told[lot]:
            self.assertIs(type(paper), Wanting)
        elif lot not in tried.readings():
            self.assertIs(type(paper), Needless)
            firsts = [unit for k, unit in enumerate(lot) if tried.told[lot[:k] + lot[k + 1:]]]
            self.same(paper.unit, firsts[0])

    def parting(self, tried, lot, paper, kinds):
        kinds[type(paper)] = kinds.get(type(paper), 0) + 1
        self.assertTrue(right_parting(tried.layout, lot, tried.question, paper, tried.bare))
        self.assertIs(bool(paper), lot in tried.partings())
        if tried.told[tried.others(lot)]:
            self.assertIs(type(paper), Enough)
        elif lot not in tried.partings():
            self.assertIs(type(paper), Spare)
            firsts = [unit for k, unit in enumerate(lot) if not tried.told[tried.others(lot[:k] + lot[k + 1:])]]
            self.same(paper.unit, firsts[0])

    def test_no_weight_outside_of_bare(self):
        for question, bare in ((Question(TWO, {}), None), (AT, Part(TWO, ("a", 0)))):
            self.same([list(readings(FULL, question, bare)), list(partings(FULL, question, bare))], [[()], []])
            self.same(musts(FULL, question, bare), ())
            cheap = least_reading(FULL, question, lambda unit: 3, bare)
            self.same([cheap.units, cheap.price, cheap.tree, cheap.told.weights], [(), 0, None, {}])
            self.assertIs(type(reading_of(FULL, [], question, bare)), Reading)
            self.assertIs(type(parting_of(FULL, FULL.units, question, bare)), Enough)

    def test_untold_by_all(self):
        layout = Layout(TWO, Pages(1), Buckets(1))
        self.same([list(readings(layout, AT)), list(partings(layout, AT))], [[], [()]])
        self.assertIs(type(parting_of(layout, [], AT)), Parting)
        for call, given in ((musts, ()), (least_reading, (len,)), (least_behind, (len, 0))):
            with self.assertRaises(Untold) as held:
                call(layout, AT, *given)
            self.assertTrue(is_right_parted(layout, layout.units, AT, held.exception.paper))
        with self.assertRaises(Untold) as held:
            musts(FULL, AT, None, ["block 1"])
        self.assertTrue(is_right_parted(FULL, ["block 1"], AT, held.exception.paper))

    def test_units_that_do_not_matter(self):
        layout = Layout(THREE, Blocks(Leads()), Buckets(1))
        bare = Part.of_keys(THREE, "b", "c")
        question = Question(THREE, {("a", 0): 1})
        self.same(list(readings(layout, question, bare)), [("block 0",), ("bucket 0",)])
        self.same(list(partings(layout, question, bare)), [("block 0", "bucket 0")])
        self.same(reading_of(layout, ["block 1", "block 0"], question, bare).unit, "block 1")
        asked = []
        least_reading(layout, question, lambda unit: asked.append(unit) or 1, bare)
        self.same(asked, ["block 0", "bucket 0", "bucket 1"])


class Prices(Case):
    def test_least_readings(self):
        chance = random.Random(3)
        seen = 0
        for layout, question, bare, units in some_asked(4, 140):
            prices = prices_for(chance, layout)
            tried = Tried(layout, question, bare, units)
            wanted = tried.cheapest(prices)
            if wanted is None:
                self.untold(least_reading, tried, layout, question, prices.get, bare, units)
                continue
            paper = least_reading(layout, question, prices.get, bare=bare, units=units)
            self.assertIs(type(paper), Cheapest)
            self.assertTrue(paper)
            self.same((paper.units, paper.price), wanted)
            self.assertTrue(right_cheapest(layout, question, prices, paper, bare, units))
            seen += 1
        self.assertGreater(seen, 60)

    def untold(self, call, tried, *given):
        with self.assertRaises(Untold) as held:
            call(*given)
        self.assertTrue(is_right_parted(tried.layout, tried.units, tried.question, held.exception.paper, tried.bare))

    def test_least_behind(self):
        chance = random.Random(5)
        kinds = {}
        for layout, question, _, _ in some_asked(6, 90):
            many = chance.choice([0, 1, 1, 2, 3])
            prices = prices_for(chance, layout)
            tried = Tried(layout, question, None, None)
            if not tried.told[tuple(layout.units)]:
                self.untold(least_behind, tried, layout, question, prices.get, many)
                continue
            paper = least_behind(layout, question, prices.get, many=many)
            self.assertTrue(right_behind(layout, question, prices, many, paper))
            kinds[type(paper)] = kinds.get(type(paper), 0) + 1
            losses = losses_up_to(layout, many)
            costs = [tried.cheapest(prices, lost) for lost in losses]
            if None in costs:
                self.assertIs(bool(paper), False)
                self.same(paper.lost, losses[costs.index(None)])
                self.same(paper.lost, next(lot for lot in tried.partings() if len(lot) <= many))
                continue
            self.assertIs(bool(paper), True)
            greatest = max(cost for _, cost in costs)
            first = next(at for at, (_, cost) in enumerate(costs) if cost == greatest)
            self.same((paper.price, paper.lost, paper.cheapest.units), (greatest, losses[first], costs[first][0]))
            self.same(list(paper.lots), losses)
        self.assertGreater(min(kinds[Behind], kinds[Cutoff]), 15)

    def test_price_is_called_once_for_each_unit_in_order(self):
        for layout, question, bare, units in some_asked(7, 30):
            asked = []
            if Tried(layout, question, bare, units).readings():
                least_reading(layout, question, lambda unit: asked.append(unit) or 2, bare, units)
                self.same(asked, mattering(layout, units, bare))
            asked = []
            if Tried(layout, question, None, None).readings():
                least_behind(layout, question, lambda unit: asked.append(unit) or 2, 1)
                self.same(asked, mattering(layout, None, None))

    def test_wrong_prices(self):
        for value in any_values() + [10 ** 9, 10 ** 9 + 1]:
            right = type(value) is int and 0 <= value <= 10 ** 9
            for wrong in ("block 0", "bucket 1"):
                for call in (lambda price: least_reading(FULL, AT, price), lambda price: least_behind(FULL, AT, price, 1)):
                    if right:
                        call(lambda unit: value if unit == wrong else 1)
                    else:
                        self.raises(BadRule("price"), call, lambda unit: value if unit == wrong else 1)

    def test_prices_that_cannot_be_called(self):
        for value in (None, True, 0, 5, "", "block 0", (), (1,), [], [len], {}, {"block 0": 1}):
            self.raises(BadRule("price"), least_reading, FULL, AT, value)
            self.raises(BadRule("price"), least_behind, FULL, AT, value, 1)
        # Where no unit matters, none is asked for.
        self.same(least_reading(Layout(TWO), Question(TWO, {}), None).units, ())

    def test_errors_of_price_go_on(self):
        def price(unit):
            raise KeyError(unit)
        for call in (lambda: least_reading(FULL, AT, price), lambda: least_behind(FULL, AT, price, 1)):
            with self.assertRaises(KeyError) as held:
                call()
            self.assertEqual(held.exception.args, ("block 0",))

    def test_a_tree_that_is_deep(self):
        layout = Layout(Shape(list("abcdef"), 1), Blocks(Every(1)), Pages(1))
        whole = Question.of(Part.whole(layout.shape))
        prices = {unit: 0 if unit.startswith("page") else 1 for unit in layout}
        paper = least_reading(layout, whole, prices.get)
        self.same([paper.units, paper.price, paper.tree], [tuple(f"page {at}" for at in range(6)), 0, None])
        dear = {unit: 10 ** 9 if unit in ("page 5", "block 5") else 0 for unit in layout}
        paper = least_reading(layout, whole, dear.get)
        self.same(paper.price, 10 ** 9)
        self.assertTrue(right_cheapest(layout, whole, dear, paper))
        paper = least_behind(layout, whole, prices.get, 1)
        self.assertTrue(right_behind(layout, whole, prices, 1, paper))
        self.same([paper.price, paper.lost], [1, ("page 0",)])


class Bounds(Case):
    def test_units_that_matter(self):
        shape = Shape(list("abc"), 4)
        twelve, thirteen = Layout(shape, Blocks(Every(1))), Layout(shape, Blocks(Every(1)), Buckets(4))
        whole = Question.of(Part.whole(shape))
        self.same(list(readings(twelve, whole)), [twelve.units])
        self.same(list(partings(twelve, whole)), [(unit,) for unit in twelve])
        self.same(least_reading(twelve, whole, lambda unit: 2).price, 24)
        self.same(least_behind(twelve, whole, lambda unit: 2, 3).lost, ("block 0",))
        price = self.fail
        for call in (lambda: list(readings(thirteen, whole)), lambda: list(partings(thirteen, whole)),
                     lambda: least_reading(thirteen, whole, price), lambda: least_behind(thirteen, whole, price, 1)):
            self.raises(TooMany("units", 12), call)
        units = [unit for unit in thirteen if unit != "block 7"]
        bare = Part(shape, shape.places[3])
        self.same(len(list(readings(thirteen, whole, None, units))), 1)
        self.same(list(readings(thirteen, whole, bare)), [("bucket 0",), tuple(u for u in twelve if u != "block 3")])
        self.same(least_reading(thirteen, whole, lambda unit: 2, bare).units, ("bucket 0",))
        # With more units that matter musts, reading_of and parting_of go on.
        self.same(musts(thirteen, whole), ())
        self.same(musts(thirteen, Question(shape, {("b", 1): 1, ("b", 2): -1}), None, twelve.units), ("block 5", "block 6"))
        self.assertIs(type(reading_of(thirteen, twelve.units, whole)), Reading)
        self.assertIs(type(parting_of(thirteen, ["bucket 0", "block 5"], whole)), Parting)

    def test_large_layouts(self):
        shape = Shape(list("abcdef"), 6)
        layout = Layout(shape, Blocks(Every(1)), Pages(1), Buckets(1))
        question = Question(shape, {("a", 0): 1})
        self.same(musts(layout, question), ())
        self.same(musts(layout, question, None, [unit for unit in layout if unit not in ("page 0", "bucket 0")]), ("block 0",))
        lot = ["page 0"] + [f"block {at}" for at in range(1, 6)]
        self.assertTrue(right_reading(layout, lot, question, reading_of(layout, lot, question)))
        self.assertIs(type(reading_of(layout, lot, question)), Reading)
        self.same(reading_of(layout, lot + ["page 3"], question).unit, "page 3")
        self.raises(TooMany("units", 12), lambda: next(readings(layout, question)))

    def test_many(self):
        for many in range(4):
            self.assertFalse(least_behind(FULL, AT, lambda unit: 1, many) and many > 1)
        for value in any_values():
            if not (type(value) is int and 0 <= value <= 3):
                self.raises(BadCount(value), least_behind, FULL, AT, len, value)
        self.raises(BadCount(4), least_behind, FULL, AT, len, 4)


class Errors(Case):
    def setUp(self):
        self.good = {"layout": FULL, "units": ["block 0"], "question": AT, "bare": Part(TWO, ("b", 0)),
                     "price": lambda unit: 1, "many": 1}
        self.wrong = [("layout", "FULL", BadLayout("layout")), ("units", ["block 0", "block 9"], BadUnit("block 9")),
                      ("question", Question(OTHER, {}), BadQuestion("question")), ("bare", Part(OTHER), BadPart("bare")),
                      ("many", True, BadCount(True)), ("price", lambda unit: -1, BadRule("price"))]
        self.calls = [
            (musts, "layout question bare units"), (lambda **named: list(readings(**named)), "layout question bare units"),
            (lambda **named: list(partings(**named)), "layout question bare units"),
            (reading_of, "layout units question bare"), (parting_of, "layout units question bare"),
            (least_reading, "layout question price bare units"), (least_behind, "layout question price many"),
        ]

    def test_first_error(self):
        for call, names in self.calls:
            good = {name: self.good[name] for name in names.split()}
            self.raises_first(call, good, [row for row in self.wrong if row[0] in good])

    def test_any_values(self):
        for call, names in self.calls:
            good = {name: self.good[name] for name in names.split()}
            for name, value in itertools.product(good, any_values()):
                error = self.error(name, value, call in (reading_of, parting_of))
                if error is not None:
                    self.raises(error, call, **{**good, name: value})

    def error(self, name, value, wanted):
        if name == "layout" and not isinstance(value, Layout):
            return BadLayout("layout")
        if name == "units" and (value is not None or wanted):
            if not isinstance(value, (list, tuple)):
                return BadUnit(None)
            return BadUnit(value[0]) if value else None
        if name == "question" and not is_of(value, Question, TWO):
            return BadQuestion("question")
        if name == "bare" and value is not None and not is_of(value, Part, TWO):
            return BadPart("bare")
        if name == "many" and not (type(value) is int and 0 <= value <= 3):
            return BadCount(value)
        return None

    def test_order_of_the_later_errors(self):
        shape = Shape(list("abc"), 4)
        layout = Layout(shape, Cells(2), Buckets(1))
        question = Question(shape, {("a", 0): 1})
        # BadCount(many), then TooMany, then Untold, then those of price.
        self.raises(BadCount(4), least_behind, layout, question, lambda unit: -1, 4)
        self.raises(TooMany("units", 12), least_behind, layout, question, lambda unit: -1, 3)
        self.raises(TooMany("units", 12), least_reading, layout, question, lambda unit: -1)
        few = Layout(shape, Buckets(1))
        with self.assertRaises(Untold):
            least_reading(few, question, lambda unit: -1)
        with self.assertRaises(Untold):
            least_behind(few, question, lambda unit: -1, 0)
        # musts asks for no number of units, but raises Untold.
        with self.assertRaises(Untold):
            musts(layout, question)

    def test_generators_raise_at_the_first_item(self):
        for call in (readings, partings):
            for given, error in (((None, AT), BadLayout("layout")), ((FULL, None), BadQuestion("question")),
                                 ((FULL, AT, 3), BadPart("bare")), ((FULL, AT, None, 3), BadUnit(None))):
                self.raises(error, lambda: next(call(*given)))

    def test_arguments_stay(self):
        units, whole = ["page 0", "block 1", "bucket 1", "page 0"], list(FULL.units)
        for call in (musts, lambda *given: list(readings(*given)), lambda *given: list(partings(*given))):
            self.same(call(FULL, AT, None, units), call(FULL, AT, None, units))
        reading_of(FULL, units, AT)
        parting_of(FULL, units, AT)
        least_reading(FULL, AT, len, None, units)
        self.same(units, ["page 0", "block 1", "bucket 1", "page 0"])
        one, two = least_behind(FULL, AT, len, 1), least_behind(FULL, AT, len, 1)
        self.assertEqual(one, two)
        one.lots.clear()
        self.assertEqual(two, least_behind(FULL, AT, len, 1))
        self.assertEqual(list(FULL.units), whole)


class Papers(Case):
    def test_papers_of_any_values(self):
        classes = {Reading: "units told parteds", Wanting: "parted", Needless: "unit told", Parting: "units parted tolds",
                   Enough: "told", Spare: "unit parted", Cheapest: "units price told tree",
                   Behind: "price lost cheapest lots", Cutoff: "lost parted"}
        false = (Wanting, Needless, Enough, Spare, Cutoff)
        for kind, names in classes.items():
            fields = names.split()
            for value in any_values():
                given = [value] + [[value]] * (len(fields) - 1)
                made = kind(*given)
                self.same([getattr(made, name) for name in fields], given)
                self.assertEqual(made, kind(**dict(zip(fields, given))))
                self.assertIs(bool(made), kind not in false)
                self.assertNotEqual(made, value)
                for at in range(len(fields)):
                    self.assertNotEqual(made, kind(*[[[value]] if k == at else one for k, one in enumerate(given)]))
                for other, more in classes.items():
                    if other is not kind and len(more.split()) == len(fields):
                        self.assertNotEqual(made, other(*given))
            self.assertEqual(kind(*[True] * len(fields)), kind(*[1] * len(fields)))

    def test_any_such_stays_the_same(self):
        for layout, question, bare, units in some_asked(8, 20):
            for lot in all_lots(counted(layout, units))[::7]:
                self.assertEqual(reading_of(layout, lot, question, bare), reading_of(layout, lot, question, bare))
                self.assertEqual(parting_of(layout, lot, question, bare), parting_of(layout, lot, question, bare))

    def test_a_parted_of_all_units(self):
        layout = Layout(THREE, Pages(1), Stripes(2), Blocks(Every(3)))
        question = Question(THREE, {("a", 1): 1})
        self.assertTrue(tells_all(layout, layout.units, [question]))
        paper = reading_of(layout, ["page 0", "page 1"], question)
        self.assertIs(type(paper.parted), Parted)
        self.assertTrue(right_reading(layout, ["page 0", "page 1"], question, paper))


if __name__ == "__main__":
    unittest.main()
