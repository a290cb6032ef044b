"""Losses, against ranks and a search through all losses and lots; papers about them, right ones and wrong ones."""

import itertools
import math
import random
import unittest

from rowvault.cuts import Every, Leads, Sizes
from rowvault.errors import BadCount, BadLayout, BadRule, BadUnit, TooMany, Untold
from rowvault.kinds import Blocks, Buckets, Cells, Pages, Stripes
from rowvault.layouts import Layout
from rowvault.look_losses import shows_backed, shows_covers, shows_help, shows_rebuilt, shows_strength
from rowvault.losses import (
    Backed, Covers, Help, Lacking, Rebuilt, Strength, Unbacked, Uncovered, covers, fewest_more, least_help, rebuilt,
    strength, units_left,
)
from rowvault.questions import Question
from rowvault.readings import partings
from rowvault.shapes import Shape
from rowvault.tables import Table
from rowvault.told import Parted, Told, told
from tests.helpers import OTHER, TWO, Case, any_values
from tests.lost import (
    SMALL, THREE, best_help, first_backing, first_lacking, is_rebuilt, joined, left_of, losses_of, right_backed,
    right_covers, right_help, right_lacking, right_loss, right_strength, some_lost,
)
from tests.lots import prices_for
from tests.papers import altered, tells_all

FULL = Layout(TWO, Blocks(Every(2)), Pages(1), Cells(2), Buckets(1))
OTHERS = [Layout(TWO), Layout(TWO, Pages(1), Buckets(1)), Layout(TWO, Cells(2)), Layout(TWO, Blocks(Every(3)), Stripes(2)),
          Layout(TWO, Buckets(2)), Layout(TWO, Blocks(Every(2))), Layout(TWO, Blocks(Leads()), Pages(1), Buckets(2))]
PAIRS = [(one, other) for one in OTHERS for other in OTHERS
         if not {kind.WORD for kind in one.kinds} & {kind.WORD for kind in other.kinds}]


class Losses(Case):
    def test_units_left(self):
        for layout, lost in some_lost(1, 60):
            self.same(units_left(layout, lost), tuple(left_of(layout.units, lost)))
        self.same(units_left(layout=FULL, lost=[]), FULL.units)

    def test_rebuilt(self):
        kinds = {Rebuilt: 0, Lacking: 0}
        for layout, lost in some_lost(2, 250):
            paper = rebuilt(layout, lost)
            kinds[type(paper)] += 1
            self.assertTrue(right_loss(layout, lost, paper))
            self.assertIs(bool(paper), is_rebuilt(layout, lost))
            if not paper:
                self.same((paper.unit, paper.index), first_lacking(layout, lost))
            self.assertEqual(paper, rebuilt(layout=layout, lost=lost[::-1]))
        self.assertGreater(min(kinds.values()), 40)

    def test_an_answer_that_only_a_later_one_hinders(self):
        # Block 0 and block 1 are lost: their first answers hang on one another, as no relation parts them.
        layout = Layout(THREE, Blocks(Leads()), Stripes(3))
        for lost in itertools.combinations(layout.units, 2):
            paper = rebuilt(layout, lost)
            self.same((paper.unit, paper.index), first_lacking(layout, lost))
        self.assertEqual(rebuilt(layout, []), Rebuilt({}))
        self.assertTrue(rebuilt(Layout(TWO), []))

    def test_covers(self):
        kinds = {Covers: 0, Uncovered: 0}
        for layout in SMALL:
            for many in range(len(layout) + 1):
                paper = covers(layout, many)
                kinds[type(paper)] += 1
                self.assertTrue(right_covers(layout, many, paper))
                wrong = [lost for lost in losses_of(layout, many) if not is_rebuilt(layout, lost)]
                self.assertIs(bool(paper), not wrong)
                if wrong:
                    self.same(paper.lost, wrong[0])
                    self.same((paper.lacking.unit, paper.lacking.index), first_lacking(layout, wrong[0]))
        self.assertGreater(min(kinds.values()), 12)

    def test_strength(self):
        for layout in SMALL[1:]:
            paper = strength(layout)
            self.assertIs(type(paper), Strength)
            self.assertTrue(right_strength(layout, paper))
            counts = [all(is_rebuilt(layout, lost) for lost in losses_of(layout, many)) for many in range(len(layout) + 1)]
            self.same(paper.many, counts.index(False) - 1)
            wrong = [lost for lost in losses_of(layout, paper.many + 1) if not is_rebuilt(layout, lost)]
            self.same(paper.lost, wrong[0])
            self.same((paper.lacking.unit, paper.lacking.index), first_lacking(layout, wrong[0]))
        self.raises(Untold(None), strength, Layout(TWO))
        self.raises(Untold(None), strength, Layout(OTHER))

    def test_covers_of_large_layouts(self):
        shape = Shape(list("abcdef"), 6)
        layout = Layout(shape, Blocks(Every(2)), Pages(1), Cells(3), Buckets(1))
        paper = covers(layout, 2)
        lost = next(lost for lost in losses_of(layout, 2) if not is_rebuilt(layout, lost))
        self.same(paper.lost, lost)
        layout = Layout(shape, Blocks(Every(3)), Stripes(6, 2), Pages(2))
        paper = strength(layout)
        self.same(paper.many, 2)
        self.assertTrue(right_strength(layout, paper))
        self.assertIs(shows_strength(layout, paper), True)


class Helps(Case):
    def test_least_help(self):
        chance = random.Random(3)
        seen = 0
        for layout, lost in some_lost(4, 120):
            if not lost:
                continue
            unit, prices = chance.choice(list(lost)), prices_for(chance, layout)
            if not tells_all(layout, left_of(layout.units, lost), layout[unit]):
                with self.assertRaises(Untold) as held:
                    least_help(layout, lost, unit, prices.get)
                paper = held.exception.paper
                # Of the other lost units nothing is asked.
                self.same(paper.unit, unit)
                index = next(k for k, one in enumerate(layout[unit])
                             if not tells_all(layout, left_of(layout.units, lost), [one]))
                self.same(paper.index, index)
                self.assertTrue(right_lacking(layout, lost, paper))
                continue
            paper = least_help(layout=layout, lost=lost, unit=unit, price=prices.get)
            self.same((paper.units, paper.price), best_help(layout, lost, unit, prices))
            self.assertTrue(right_help(layout, lost, unit, prices, paper))
            self.assertIs(shows_help(layout, lost, unit, prices.get, paper), True)
            seen += 1
        self.assertGreater(seen, 30)

    def test_price_is_called_for_each_unit_left(self):
        asked = []
        least_help(FULL, ["block 0", "page 1"], "block 0", lambda unit: asked.append(unit) or 1)
        self.same(asked, left_of(FULL.units, ["block 0", "page 1"]))
        asked = []
        shows_help(FULL, ["block 0", "page 1"], "block 0", lambda unit: asked.append(unit) or 1, None)
        self.same(asked, left_of(FULL.units, ["block 0", "page 1"]))

        def price(unit):
            raise KeyError(unit)
        for call in (lambda: least_help(FULL, ["page 0"], "page 0", price),
                     lambda: shows_help(FULL, ["page 0"], "page 0", price, None)):
            with self.assertRaises(KeyError) as held:
                call()
            self.assertEqual(held.exception.args, ("block 0",))

    def test_wrong_prices(self):
        for value in any_values() + [10 ** 9, 10 ** 9 + 1]:
            for wrong in ("block 0", "bucket 1"):
                price = lambda unit: value if unit == wrong else 1
                if type(value) is int and 0 <= value <= 10 ** 9:
                    least_help(FULL, ["page 0"], "page 0", price)
                else:
                    self.raises(BadRule("price"), least_help, FULL, ["page 0"], "page 0", price)
                    self.raises(BadRule("price"), shows_help, FULL, ["page 0"], "page 0", price, None)

    def test_the_cheaper_of_more_units(self):
        prices = dict.fromkeys(FULL, 0)
        paper = least_help(FULL, ["page 0"], "page 0", prices.get)
        self.same([paper.units, paper.price], [("block 0",), 0])
        prices["block 0"] = prices["cell 1 0"] = 1
        paper = least_help(FULL, ["page 0"], "page 0", prices.get)
        self.same([paper.units, paper.price], [("block 1", "cell 2 0"), 0])


class More(Case):
    def test_fewest_more(self):
        kinds = {Backed: 0, Unbacked: 0}
        for layout, other in PAIRS:
            for many in range(len(layout) + 1):
                if len(losses_of(layout, many)) * 2 ** len(other) > 2000:
                    continue
                paper = fewest_more(layout, many, other=other)
                kinds[type(paper)] += 1
                self.assertTrue(right_backed(layout, many, other, paper))
                both, wanted = joined(layout, other), first_backing(layout, many, other)
                self.assertIs(bool(paper), wanted is not None)
                if paper:
                    self.same(paper.units, wanted)
                else:
                    lost = next(lost for lost in losses_of(layout, many) if not is_rebuilt(both, lost))
                    self.same(paper.lost, lost)
                    self.same((paper.lacking.unit, paper.lacking.index), first_lacking(both, lost))
        self.assertGreater(min(kinds.values()), 10)

    def test_fact_of_partings(self):
        # Units back all losses of a number exactly if no parting of an answer has units of the layout alone.
        for layout, other in PAIRS[:12]:
            both = joined(layout, other)
            for many in range(min(len(layout), 2) + 1):
                paper = fewest_more(layout, many, other)
                for lot in ([], other.units):
                    units = [*layout.units, *lot]
                    cuts = [cut for unit in layout for one in layout[unit] for cut in partings(both, one, None, units)]
                    weak = [cut for cut in cuts if all(unit in layout for unit in cut) and len(cut) <= many]
                    held = bool(paper) and (paper.units == () or len(lot) > 0)
                    self.assertIs(held, not weak)


class Altered(Case):
    def look(self, seen, shows, right, paper, chance, others):
        for value in [paper] + [altered(paper, chance, others) for _ in range(25)]:
            wanted = right(value)
            self.assertIs(shows(value), wanted, f"{value!r} {getattr(value, '__dict__', None)}")
            seen[wanted] += 1

    def test_papers_with_one_thing_otherwise(self):
        chance = random.Random(5)
        counts = []
        for shows, right, cases in (
                (shows_rebuilt, right_loss, [(layout, lost) for layout, lost in some_lost(6, 60)]),
                (shows_covers, right_covers, [(layout, many) for layout in SMALL for many in range(min(3, len(layout)) + 1)]),
                (shows_strength, right_strength, [(layout,) for layout in SMALL[1:] * 3])):
            seen = {True: 0, False: 0}
            made = {shows_rebuilt: rebuilt, shows_covers: covers, shows_strength: strength}[shows]
            for given in cases:
                paper = made(*given)
                self.look(seen, lambda one: shows(*given, one), lambda one: right(*given, one), paper, chance,
                          [paper, *given[0].units, 0, 1, 2])
            counts += list(seen.values())
        self.assertGreater(min(counts), 40)

    def test_helps_with_one_thing_otherwise(self):
        chance = random.Random(7)
        seen = {True: 0, False: 0}
        for layout, lost in some_lost(8, 60, SMALL[2:6]):
            unit, prices = (lost or ["block 0"])[0], prices_for(chance, layout)
            if not lost or not tells_all(layout, left_of(layout.units, lost), layout[unit]):
                continue
            paper = least_help(layout, lost, unit, prices.get)
            self.look(seen, lambda one: shows_help(layout, lost, unit, prices.get, one),
                      lambda one: right_help(layout, lost, unit, prices, one), paper, chance, [paper, *layout.units])
        self.assertGreater(min(seen.values()), 20)

    def test_backs_with_one_thing_otherwise(self):
        chance = random.Random(9)
        seen = {True: 0, False: 0}
        for layout, other in PAIRS:
            for many in range(min(len(layout), 2) + 1):
                paper = fewest_more(layout, many, other)
                self.look(seen, lambda one: shows_backed(layout, many, other, one),
                          lambda one: right_backed(layout, many, other, one), paper, chance, [paper, *layout.units])
        self.assertGreater(min(seen.values()), 50)

    def test_any_values(self):
        for value in any_values():
            self.assertIs(shows_rebuilt(FULL, ["block 0"], value), False)
            self.assertIs(shows_covers(FULL, 1, value), False)
            self.assertIs(shows_strength(FULL, value), False)
            self.assertIs(shows_help(FULL, ["page 0"], "page 0", len, value), False)
            self.assertIs(shows_backed(OTHERS[5], 1, OTHERS[1], value), False)
            for other in any_values():
                for paper in (Rebuilt(value), Lacking(value, other, other), Covers(value), Uncovered(value, other),
                              Strength(value, other, other, other), Help(value, other, other), Backed(value, other),
                              Unbacked(value, other), Rebuilt({value: other} if self.hashable(value) else value)):
                    self.assertIs(shows_rebuilt(FULL, ["block 0"], paper), False)
                    self.assertIs(shows_covers(FULL, 1, paper), False)
                    if not (type(value) is int and 0 <= value <= 9):
                        self.assertIs(shows_strength(FULL, paper), False)

    def hashable(self, value):
        try:
            hash(value)
        except TypeError:
            return False
        return True


class Others(Case):
    """Right papers that the program does not make."""

    def test_any_lacking(self):
        around = Table(TWO, {("a", 0): 1, ("a", 1): -1, ("b", 0): -1, ("b", 1): 1})
        for unit, index in itertools.product(("block 0", "block 1"), (0, 1)):
            paper = Lacking(unit, index, Parted(Table(TWO), -7 * around))
            self.assertIs(shows_rebuilt(FULL, ["block 1", "block 0"], paper), True)
            self.assertIs(shows_rebuilt(FULL, ["block 1", "block 0", "page 0"], paper), True)
            self.assertIs(shows_rebuilt(FULL, ["block 1"], paper), False)
            for lost in (("block 0", "block 1", "page 0"), ("block 0", "block 1", "bucket 1")):
                self.assertIs(shows_covers(FULL, 3, Uncovered(lost, paper)), True)
                self.assertIs(shows_covers(FULL, 2, Uncovered(lost, paper)), False)
                self.assertIs(shows_covers(FULL, 3, Uncovered(list(lost), paper)), False)
                self.assertIs(shows_covers(FULL, 3, Uncovered(lost[::-1], paper)), False)
        for index in (2, -1, True, "0", None):
            self.assertIs(shows_rebuilt(FULL, ["block 1", "block 0"], Lacking("block 0", index, Parted(Table(TWO), around))),
                          False)

    def test_other_tolds(self):
        paper = rebuilt(FULL, ["page 0"])
        for weights in ({("block 0", 0): 3, ("block 0", 1): 3}, {("cell 1 0", 0): 3}, {("cell 2 0", 0): 3, ("page 1", 0): -3}):
            self.assertIs(shows_rebuilt(FULL, ["page 0"], Rebuilt({("page 0", 0): Told(3, weights)})), True)
            self.assertIs(shows_rebuilt(FULL, ["page 0"], Rebuilt({("page 0", False): Told(3, weights)})), False)
            self.assertIs(shows_rebuilt(FULL, ["page 0", "block 0", "cell 1 0", "page 1"],
                                        Rebuilt({("page 0", 0): Told(3, weights)})), False)
        self.assertIs(shows_rebuilt(FULL, ["page 0"], paper), True)
        self.assertIs(shows_rebuilt(FULL, ["page 1"], paper), False)
        self.assertIs(shows_rebuilt(FULL, [], Rebuilt({})), True)

    def test_other_strengths(self):
        paper = strength(FULL)
        lost = ("block 0", "block 1")
        for many, covered, gone in ((0, covers(FULL, 0), ("block 0",)), (1, paper.covered, lost), (2, paper.covered, lost)):
            value = Strength(many, covered, gone, paper.lacking)
            self.assertIs(shows_strength(FULL, value), many == 1)
        self.assertIs(shows_strength(FULL, Strength(True, paper.covered, lost, paper.lacking)), False)
        value = Strength(1, paper.covered, ("block 0", "block 1", "page 0"), paper.lacking)
        self.assertIs(shows_strength(FULL, value), False)

    def test_a_help_that_is_not_the_first_one(self):
        one = lambda unit: 1
        for units, right in ((("block 0",), True), (("cell 1 0",), False), (("block 0", "page 1"), False)):
            value = Help(units, len(units), {0: told(FULL, units, FULL["page 0"][0])})
            self.assertIs(shows_help(FULL, ["page 0"], "page 0", one, value), right)
        free = lambda unit: 0 if unit in ("cell 1 0", "page 1", "cell 2 0") else 1
        for units, right in ((("cell 1 0",), True), (("page 1", "cell 2 0"), False), (("block 0",), False)):
            value = Help(units, sum(map(free, units)), {0: told(FULL, units, FULL["page 0"][0])})
            self.assertIs(shows_help(FULL, ["page 0"], "page 0", free, value), right)
        value = Help(("block 0",), 1, {False: told(FULL, ["block 0"], FULL["page 0"][0])})
        self.assertIs(shows_help(FULL, ["page 0"], "page 0", one, value), False)

    def test_a_backing_that_is_not_the_first_one(self):
        alone, sums = Layout(TWO, Blocks(Every(2))), Layout(TWO, Pages(1), Buckets(1))
        both = joined(alone, sums)
        for units in (("bucket 0", "bucket 1"), ("page 0", "bucket 0", "bucket 1"), ("bucket 0",), ("bucket 1", "bucket 0")):
            rebuilts = {}
            for lost in (("block 0",), ("block 1",)):
                left = [unit for unit in both if unit not in lost and (unit in alone or unit in units)]
                papers = {(lost[0], at): told(both, left, one) for at, one in enumerate(both[lost[0]])}
                rebuilts[lost] = Rebuilt(papers)
            value = Backed(units, rebuilts)
            self.assertIs(shows_backed(alone, 1, sums, value), units == ("bucket 0", "bucket 1"))
        # All blocks are lost: any index of any block is right in an Unbacked.
        around = Table(TWO, {("a", 0): 1, ("a", 1): -1, ("b", 0): -1, ("b", 1): 1})
        for unit, index in itertools.product(("block 0", "block 1"), (0, 1)):
            value = Unbacked(("block 0", "block 1"), Lacking(unit, index, Parted(Table(TWO), around)))
            self.assertIs(shows_backed(alone, 2, sums, value), True)
            self.assertIs(shows_backed(alone, 1, sums, value), False)
            self.assertIs(shows_backed(alone, 2, joined(sums, Layout(TWO, Cells(2))), value), index in (0, 1))


class Bounds(Case):
    def test_numbers(self):
        for call in (covers, lambda layout, many: shows_covers(layout, many, None),
                     lambda layout, many: fewest_more(layout, many, Layout(TWO, Stripes(2), Blocks(Every(1)))),
                     lambda layout, many: shows_backed(layout, many, Layout(TWO, Stripes(2), Blocks(Every(1))), None)):
            layout = Layout(TWO, Pages(1), Buckets(1))
            for many in range(5):
                call(layout, many)
            for value in any_values() + [5]:
                if not (type(value) is int and 0 <= value <= 4):
                    self.raises(BadCount(value), call, layout, value)

    def test_losses(self):
        shape = Shape(list("abcdef"), 4)
        few = Layout(shape, Blocks(Every(1)))
        more = Layout(shape, Blocks(Every(1)), Stripes(6, 2))
        self.assertEqual([len(few), len(more), math.comb(24, 3), math.comb(32, 2)], [24, 32, 2024, 496])
        for layout, many, let in ((few, 2, True), (few, 3, False), (few, 21, False), (few, 22, True), (more, 2, True),
                                  (more, 3, False), (more, 32, True), (more, 29, False)):
            for call in (covers, lambda *given: shows_covers(*given, None)):
                if let:
                    call(layout, many)
                else:
                    self.raises(TooMany("losses", 2000), call, layout, many)
        twenty_three = Layout(Shape(["a", "b"], 8), Blocks(Every(1)), Pages(1), Cells(4))
        self.assertEqual([len(twenty_three), math.comb(23, 3)], [23, 1771])
        self.assertIs(type(covers(twenty_three, 3)), Uncovered)
        self.assertIs(type(covers(twenty_three, 20)), Uncovered)

    def test_strength_of_too_many(self):
        shape = Shape(["a"], 4)
        # Blocks, cells, pages and buckets tell one another: no number up to 2 fails.
        layout = Layout(Shape(list("abcdef"), 6), Blocks(Every(6)), Stripes(6, 2), Pages(1), Buckets(1), Cells(2))
        self.assertGreater(math.comb(len(layout), 2), 1000)
        self.assertLess(math.comb(len(layout), 2), 2000)
        paper = covers(layout, 2)
        self.assertTrue(paper)
        self.raises(TooMany("losses", 2000), strength, layout)
        for many, let in ((0, True), (1, True), (2, True), (3, False), (60, True), (-1, True), (True, True)):
            value = Strength(many, paper, ("block 0",), None)
            if let:
                self.assertIs(shows_strength(layout, value), False)
            else:
                self.raises(TooMany("losses", 2000), shows_strength, layout, value)
        self.assertTrue(strength(Layout(shape, Blocks(Every(1)))))

    def test_help(self):
        shape = Shape(list("abc"), 4)
        thirteen = Layout(shape, Blocks(Every(1)), Buckets(4))
        fourteen = thirteen + Pages(6)
        paper = least_help(thirteen, ["bucket 0"], "bucket 0", lambda unit: 1)
        self.same([paper.price, paper.units], [12, thirteen.units[:12]])
        self.assertIs(shows_help(thirteen, ["bucket 0"], "bucket 0", lambda unit: 1, paper), True)
        for call in (least_help, lambda *given: shows_help(*given, None)):
            self.raises(TooMany("units", 12), call, fourteen, ["bucket 0"], "bucket 0", self.fail)
            call(fourteen, ["bucket 0", "block 3"], "bucket 0", lambda unit: 1)

    def test_backings(self):
        shape = Shape(list("abcdef"), 6)
        one, other = Layout(shape, Blocks(Every(2)), Cells(6)), Layout(shape, Pages(1), Buckets(1))
        self.assertEqual([len(one), len(other)], [25, 12])
        self.raises(TooMany("losses", 2000), fewest_more, one, 0, other)
        self.raises(TooMany("losses", 2000), shows_backed, one, 0, other, None)
        paper = fewest_more(other, 0, one - "block")
        self.same(paper.units, ())
        six = Layout(shape, Pages(1))
        self.assertEqual(31 * 2 ** 6, 1984)
        for size, let in ((31, True), (32, False)):
            cut = Sizes(*[1] * (size - 1), 36)
            layout = Layout(shape, Blocks(cut))
            self.assertEqual(len(layout), size)
            if let:
                self.assertIs(type(fewest_more(layout, 1, six)), Unbacked)
                self.assertIs(shows_backed(layout, 1, six, fewest_more(layout, 1, six)), True)
            else:
                self.raises(TooMany("losses", 2000), fewest_more, layout, 1, six)
        blocks, cells = Layout(shape, Blocks(Every(1))), Layout(shape, Cells(2))
        self.assertGreater(len(blocks) + len(cells), 60)
        self.raises(TooMany("units", 60), fewest_more, blocks, 0, cells)
        self.raises(TooMany("units", 60), shows_backed, blocks, 0, cells, None)
        self.raises(TooMany("losses", 2000), fewest_more, blocks, 0, Layout(shape, Cells(3)))


class Errors(Case):
    def test_first_error(self):
        lost = ("lost", ["block 0", 7], BadUnit(7))
        layout = ("layout", None, BadLayout("layout"))
        many = ("many", True, BadCount(True))
        price = ("price", lambda unit: None, BadRule("price"))
        other = ("other", Layout(OTHER), BadLayout("other"))
        unit = ("unit", "block 1", BadUnit("block 1"))
        good = {"layout": FULL, "lost": ["block 0"], "many": 1, "price": lambda unit: 1, "unit": "block 0", "value": None}
        backed = {"layout": OTHERS[5], "many": 1, "other": OTHERS[1]}
        rows = [(units_left, "layout lost"), (rebuilt, "layout lost"), (covers, "layout many"), (strength, "layout"),
                (least_help, "layout lost unit price"), (shows_rebuilt, "layout lost value"),
                (shows_covers, "layout many value"), (shows_strength, "layout value"),
                (shows_help, "layout lost unit price value")]
        for call, names in rows:
            given = {name: good[name] for name in names.split()}
            wrong = [row for row in (layout, lost, many, unit, price) if row[0] in given]
            self.raises_first(call, given, wrong)
        self.raises_first(fewest_more, backed, [layout, many, other])
        self.raises_first(shows_backed, {**backed, "value": None}, [layout, many, other])

    def test_any_values(self):
        for value in any_values():
            if not isinstance(value, Layout):
                for call, given in ((units_left, [[]]), (rebuilt, [[]]), (covers, [0]), (strength, []),
                                    (least_help, [["block 0"], "block 0", len]), (fewest_more, [0, OTHERS[1]]),
                                    (shows_rebuilt, [[], None]), (shows_covers, [0, None]), (shows_strength, [None]),
                                    (shows_help, [["block 0"], "block 0", len, None]), (shows_backed, [0, OTHERS[1], None])):
                    self.raises(BadLayout("layout"), call, value, *given)
            if not isinstance(value, (list, tuple)):
                error = BadUnit(None)
            elif not value:
                continue
            else:
                error = BadUnit(value[0])
            for call, given in ((units_left, []), (rebuilt, []), (least_help, ["block 0", len]), (shows_rebuilt, [None]),
                                (shows_help, ["block 0", len, None])):
                self.raises(error, call, FULL, value, *given)
        for value in any_values() + ["block 1", "journal", "block 9"]:
            if value != "block 0":
                self.raises(BadUnit(value), least_help, FULL, ["page 0", "block 0"], value, len)
                self.raises(BadUnit(value), shows_help, FULL, ["page 0", "block 0"], value, len, None)
            if not isinstance(value, Layout) or value.shape != TWO:
                self.raises(BadLayout("other"), fewest_more, FULL, 0, value)
                self.raises(BadLayout("other"), shows_backed, FULL, 0, value, None)
        for other in (Layout(TWO, Pages(2)), Layout(TWO, Blocks(Every(4)), Stripes(3))):
            self.raises(BadLayout("other"), fewest_more, FULL, 0, other)
            self.raises(BadLayout("other"), shows_backed, FULL, 0, other, None)

    def test_order_of_the_later_errors(self):
        shape = Shape(list("abc"), 5)
        layout = Layout(shape, Blocks(Every(1)))
        self.raises(BadUnit("block 1"), least_help, layout, ["block 0"], "block 1", self.fail)
        self.raises(TooMany("units", 12), least_help, layout, ["block 0"], "block 0", self.fail)
        with self.assertRaises(Untold):
            least_help(layout, layout.units[:4], "block 0", self.fail)
        # The looker raises no Untold, so the prices are asked for.
        self.raises(BadRule("price"), shows_help, layout, layout.units[:4], "block 0", lambda unit: None, None)
        self.assertIs(shows_help(layout, layout.units[:4], "block 0", lambda unit: 1, None), False)
        # BadCount(many) of fewest_more comes ahead of BadLayout("other"), TooMany of units ahead of that of losses.
        self.raises(BadCount(99), fewest_more, layout, 99, None)
        self.raises(Untold(None), strength, Layout(shape))

    def test_arguments_stay(self):
        lost = ["page 0", "block 0", "page 0"]
        for call in (units_left, rebuilt, lambda *given: least_help(*given, "block 0", len)):
            self.assertEqual(call(FULL, lost), call(FULL, lost))
        self.same(lost, ["page 0", "block 0", "page 0"])
        paper = rebuilt(FULL, lost)
        paper.tolds.clear()
        self.assertTrue(rebuilt(FULL, lost).tolds)


class Papers(Case):
    def test_papers_of_any_values(self):
        classes = {Rebuilt: "tolds", Lacking: "unit index parted", Covers: "rebuilts", Uncovered: "lost lacking",
                   Strength: "many covered lost lacking", Help: "units price tolds", Backed: "units rebuilts",
                   Unbacked: "lost lacking"}
        for kind, names in classes.items():
            fields = names.split()
            for value in any_values():
                given = [value] + [[value]] * (len(fields) - 1)
                made = kind(*given)
                self.same([getattr(made, name) for name in fields], given)
                self.assertEqual(made, kind(**dict(zip(fields, given))))
                self.assertIs(bool(made), kind not in (Lacking, Uncovered, Unbacked))
                self.assertNotEqual(made, value)
                for at in range(len(fields)):
                    self.assertNotEqual(made, kind(*[[[value]] if k == at else one for k, one in enumerate(given)]))
                for other, more in classes.items():
                    if other is not kind and len(more.split()) == len(fields):
                        self.assertNotEqual(made, other(*given))

    def test_a_loss_that_needs_fractions(self):
        layout = Layout(Shape(["a"], 3), Blocks(Every(1)), Stripes(3, 2))
        paper = rebuilt(layout, ["block 0", "block 2"])
        self.assertTrue(right_loss(layout, ["block 0", "block 2"], paper))
        self.assertEqual(sorted(one.bottom for one in paper.tolds.values()), [2, 2])
        question = Question(layout.shape, {("a", 0): 1})
        self.assertTrue(tells_all(layout, ["block 1", "parity 0 0", "parity 0 1"], [question]))


if __name__ == "__main__":
    unittest.main()
