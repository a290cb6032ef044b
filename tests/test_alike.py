"""Layouts that tell one another, against ranks; papers, right ones and wrong ones."""

import itertools
import random
import unittest

from rowvault.alike import (
    Alike, Apart, Breaks, Silent, Tells, Throughout, alike, common, needless, slim, tells, tells_always,
)
from rowvault.cuts import Every, Leads, Sizes
from rowvault.errors import BadCount, BadKind, BadLayout, TooMany
from rowvault.kinds import Blocks, Buckets, Cells, Kind, Pages, Stripes
from rowvault.layouts import Layout
from rowvault.look_alike import shows_alike, shows_breaks, shows_slim, shows_tells
from rowvault.questions import Question
from rowvault.shapes import Shape
from rowvault.spans import Span
from rowvault.tables import Table
from rowvault.told import Parted, Told, told
from tests.helpers import OTHER, TWO, Case, any_values, is_int
from tests.lost import left_of
from tests.papers import all_lots, altered, is_lot, is_right_parted, is_right_told, rank_of, tells_all, weights_at

KINDS = [(), (Blocks(Every(2)),), (Pages(1),), (Pages(2),), (Buckets(1),), (Buckets(2),), (Cells(2),),
         (Pages(1), Buckets(1)), (Blocks(Every(3)), Stripes(2)), (Blocks(Every(1)), Stripes(2, 2)),
         (Cells(3), Pages(1)), (Blocks(Leads()), Buckets(1))]
SHAPES = [TWO, Shape(["a"], 3), Shape(list("abc"), 2)]
PAIRS = [(Layout(shape, *one), Layout(shape, *other)) for shape in SHAPES for one in KINDS for other in KINDS]
FULL = Layout(TWO, Blocks(Every(2)), Pages(1), Cells(2), Buckets(1))


def rows_of(layout, units=None):
    return [weights_at(one, layout.shape.places) for unit in (layout.units if units is None else units)
            for one in layout[unit]]


def first_silent(one, other):
    for unit in other.units:
        for index, question in enumerate(other[unit]):
            if not tells_all(one, one.units, [question]):
                return unit, index
    return None


def right_tells(one, other, value):
    if type(value) is Silent:
        if type(value.unit) is not str or value.unit not in other.units or not is_int(value.index):
            return False
        if not 0 <= value.index < len(other[value.unit]):
            return False
        return is_right_parted(one, one.units, other[value.unit][value.index], value.parted)
    if type(value) is not Tells or type(value.tolds) is not dict:
        return False
    pairs = [(unit, index) for unit in other.units for index in range(len(other[unit]))]
    if sorted(map(repr, value.tolds)) != sorted(map(repr, pairs)):
        return False
    return all(is_right_told(one, one.units, other[unit][index], paper) for (unit, index), paper in value.tolds.items())


def right_alike(one, other, value):
    if type(value) is Alike:
        return type(value.there) is Tells and type(value.back) is Tells \
            and right_tells(one, other, value.there) and right_tells(other, one, value.back)
    if type(value) is not Apart or type(value.side) is not str or type(value.silent) is not Silent:
        return False
    if value.side == "other":
        return right_tells(one, other, value.silent)
    return value.side == "one" and right_tells(other, one, value.silent)


def right_breaks(kinds, others, value):
    if type(value) is not Breaks or type(value.shape) is not Shape or type(value.silent) is not Silent:
        return False
    try:
        one, other = Layout(value.shape, *kinds), Layout(value.shape, *others)
    except TooMany:
        return False
    return right_tells(one, other, value.silent)


class Two(Case):
    def test_tells_and_alike(self):
        seen = {}
        for one, other in PAIRS:
            paper, silent = tells(one, other), first_silent(one, other)
            self.assertTrue(right_tells(one, other, paper))
            self.assertIs(bool(paper), silent is None)
            if silent:
                self.same((paper.unit, paper.index), silent)
            self.assertIs(shows_tells(one, other, paper), True)
            both = alike(one=one, other=other)
            seen[type(both)] = seen.get(type(both), 0) + 1
            self.assertTrue(right_alike(one, other, both))
            self.assertIs(shows_alike(one, other, both), True)
            if silent:
                self.assertEqual(both, Apart("other", paper))
            elif first_silent(other, one):
                self.assertEqual(both, Apart("one", tells(other, one)))
            else:
                self.assertEqual(both, Alike(paper, tells(other, one)))
        self.assertGreater(min(seen.values()), 30)
        self.assertEqual(tells(Layout(TWO), Layout(TWO)), Tells({}))

    def test_common(self):
        for one, other in PAIRS[::3]:
            span = common(one, other)
            self.assertIsInstance(span, Span)
            rows = rows_of(one) + rows_of(other)
            self.same(len(span), rank_of(rows_of(one)) + rank_of(rows_of(other)) - rank_of(rows))
            for row in span:
                self.assertTrue(tells_all(one, one.units, [row]) and tells_all(other, other.units, [row]))
        self.assertEqual(common(other=FULL, one=FULL), FULL.span_of(FULL.units))

    def test_wrong_layouts(self):
        calls = [tells, alike, common, lambda *given: shows_tells(*given, None), lambda *given: shows_alike(*given, None)]
        for call in calls:
            for value in any_values():
                if not isinstance(value, Layout):
                    self.raises(BadLayout("one"), call, value, value)
                if not isinstance(value, Layout) or value.shape != TWO:
                    self.raises(BadLayout("other"), call, FULL, value)
            self.raises(BadLayout("other"), call, FULL, Layout(OTHER, Pages(1)))
        for value in any_values():
            if not isinstance(value, Layout):
                self.raises(BadLayout("layout"), needless, value)
                self.raises(BadLayout("layout"), slim, value)
                self.raises(BadLayout("layout"), shows_slim, value, None)


class Slim(Case):
    def test_needless_and_slim(self):
        for layout in {str(one): one for one, _ in PAIRS}.values():
            wanted = tuple(unit for unit in layout.units
                           if tells_all(layout, left_of(layout.units, [unit]), layout[unit]))
            self.same(needless(layout), wanted)
            left = list(layout.units)
            for unit in reversed(layout.units):
                if tells_all(layout, left_of(left, [unit]), layout[unit]):
                    left.remove(unit)
            self.same(slim(layout=layout), tuple(left))
            self.assertEqual(rank_of(rows_of(layout, left)), rank_of(rows_of(layout)))
            self.assertIs(shows_slim(layout, slim(layout)), True)

    def test_lookers_of_slim(self):
        chance = random.Random(1)
        seen = {True: 0, False: 0}
        for layout in [FULL] + [Layout(TWO, *kinds) for kinds in KINDS]:
            lots = all_lots(layout.units)
            values = lots if len(lots) < 600 else chance.sample(lots, 200) + [slim(layout)]
            for lot in list(values):
                values = values + [altered(lot, chance, layout.units)] if chance.random() < 0.5 else values
            for value in values:
                wanted = is_lot(value, layout.units) and rank_of(rows_of(layout, value)) == rank_of(rows_of(layout)) \
                    and not any(tells_all(layout, left_of(value, [unit]), layout[unit]) for unit in value)
                self.assertIs(shows_slim(layout, value), wanted)
                seen[wanted] += 1
        self.assertGreater(min(seen.values()), 30)
        for value in any_values():
            self.assertIs(shows_slim(FULL, value), False)
            self.assertIs(shows_slim(Layout(TWO), value), value == () and type(value) is tuple)
        # A lot that is not the program's own one.
        self.assertIs(shows_slim(FULL, ("page 0", "page 1", "cell 2 0", "bucket 0")), False)
        self.assertIs(shows_slim(FULL, ("block 1", "page 0", "bucket 0")), True)
        self.assertIs(shows_slim(FULL, ("block 1", "bucket 0", "page 0")), False)


class Always(Case):
    def test_tells_always(self):
        seen = {Throughout: 0, Breaks: 0}
        for kinds, others in itertools.product(KINDS, KINDS):
            paper = tells_always(list(kinds), others, 2, 3)
            seen[type(paper)] += 1
            shapes = [Shape(list("ab")[:keys], days) for keys in (1, 2) for days in (1, 2, 3)]
            broken = [shape for shape in shapes if first_silent(Layout(shape, *kinds), Layout(shape, *others))]
            self.assertIs(bool(paper), not broken)
            if broken:
                self.assertEqual(paper.shape, broken[0])
                self.assertEqual(paper.silent, tells(Layout(broken[0], *kinds), Layout(broken[0], *others)))
                self.assertIs(shows_breaks(kinds, list(others), paper), True)
            else:
                self.assertEqual(paper, Throughout(tuple(shapes)))
                self.assertIs(shows_breaks(kinds, others, paper), False)
        self.assertGreater(min(seen.values()), 30)

    def test_bounds(self):
        for keys, days, let in ((1, 1, True), (6, 1, True), (1, 8, True), (6, 6, True), (5, 7, True), (4, 8, True), (6, 7, False), (5, 8, False), (6, 8, False)):
            if let:
                paper = tells_always([Pages(6)], (Pages(6),), keys=keys, days=days)
                self.same(len(paper.shapes), keys * days)
                self.same(str(paper.shapes[0]), "a days 1")
                self.same(str(paper.shapes[-1]), " ".join([*"abcdef"[:keys], "days", str(days)]))
                self.same([(len(shape.key_names), shape.days) for shape in paper.shapes],
                          [(many, day) for many in range(1, keys + 1) for day in range(1, days + 1)])
            else:
                self.raises(TooMany("places", 36), tells_always, [], [], keys, days)
        for value in any_values() + [7, 8, 9]:
            if not (type(value) is int and 1 <= value <= 6):
                self.raises(BadCount(value), tells_always, [], [], value, 99)
            if not (type(value) is int and 1 <= value <= 8):
                self.raises(BadCount(value), tells_always, [], [], 1, value)
        # On the last shapes there are too many units, so nothing is told, not even that the first shape breaks.
        kinds = [Blocks(Every(1)), Cells(2)]
        self.assertIs(type(tells_always([], kinds, 3, 8)), Breaks)
        self.assertEqual([len(Layout(Shape(list("abcd"), days), *kinds)) for days in (6, 7)], [48, 56])
        self.raises(TooMany("units", 60), Layout, Shape(list("abcd"), 8), *kinds)
        self.raises(TooMany("units", 60), tells_always, [], kinds, 4, 8)
        self.raises(TooMany("units", 60), tells_always, kinds, [], 4, 8)
        self.assertIs(type(tells_always([], kinds, 4, 7)), Breaks)

    def test_wrong_kinds(self):
        wrong = [value for value in any_values() if not (isinstance(value, (list, tuple)) and not value)]
        wrong += [[Pages(1), Pages(2)], [Stripes(2)], (Pages(1), None), [Pages(1), Stripes(2)], {Pages: 1}, Pages(1)]
        for value in wrong:
            for call in (lambda *given: tells_always(*given, 99, 99), lambda *given: shows_breaks(*given, None)):
                self.raises(BadKind("kinds"), call, value, value)
                self.raises(BadKind("others"), call, [], value)
        self.raises_first(tells_always, {"kinds": [], "others": (), "keys": 2, "days": 2},
                          [("kinds", None, BadKind("kinds")), ("others", [1], BadKind("others")),
                           ("keys", 7, BadCount(7)), ("days", 9, BadCount(9))])
        self.assertTrue(issubclass(Pages, Kind))

    def test_arguments_stay(self):
        kinds, others = [Buckets(1), Blocks(Every(2))], [Stripes(2), Blocks(Every(2))]
        paper = tells_always(kinds, others, 2, 2)
        self.assertEqual(paper, tells_always(kinds, others, 2, 2))
        self.same([str(kind) for kind in kinds + others],
                  ["buckets 1", "blocks keys every 2", "stripes 2 1", "blocks keys every 2"])


class Altered(Case):
    def look(self, seen, shows, right, paper, chance, others):
        for value in [paper] + [altered(paper, chance, others) for _ in range(25)]:
            wanted = right(value)
            self.assertIs(shows(value), wanted, f"{value!r} {getattr(value, '__dict__', None)}")
            seen[wanted] += 1

    def test_papers_with_one_thing_otherwise(self):
        chance = random.Random(2)
        counts = [{True: 0, False: 0} for _ in range(3)]
        for one, other in chance.sample(PAIRS, 80):
            others = [*one.units, *other.units, "one", "other", 0, 1, TWO, SHAPES[1]]
            self.look(counts[0], lambda value: shows_tells(one, other, value),
                      lambda value: right_tells(one, other, value), tells(one, other), chance, others)
            self.look(counts[1], lambda value: shows_alike(one, other, value),
                      lambda value: right_alike(one, other, value), alike(one, other), chance, others)
            kinds, more = one.kinds, other.kinds
            self.look(counts[2], lambda value: shows_breaks(kinds, more, value),
                      lambda value: right_breaks(kinds, more, value), tells_always(kinds, more, 2, 2), chance, others)
        for seen in counts:
            self.assertGreater(min(seen.values()), 40)

    def test_other_right_papers(self):
        pages, buckets = Layout(TWO, Pages(1)), Layout(TWO, Buckets(1))
        for unit, index in (("page 0", 0), ("page 1", 0)):
            silent = Silent(unit, index, told(buckets, buckets.units, pages[unit][index]))
            self.assertIs(shows_tells(buckets, pages, silent), True)
            self.assertIs(shows_tells(pages, buckets, silent), False)
            self.assertIs(shows_alike(buckets, pages, Apart("other", silent)), True)
            self.assertIs(shows_alike(pages, buckets, Apart("one", silent)), True)
            self.assertIs(shows_alike(pages, buckets, Apart("other", silent)), False)
            for index in (1, -1, False, "0"):
                self.assertIs(shows_tells(buckets, pages, Silent(unit, index, silent.parted)), False)
        for shape in (TWO, Shape(["x", "yy"], 3), Shape(list("abc"), 2)):
            one, other = Layout(shape, Buckets(1)), Layout(shape, Pages(1))
            silent = Silent("page 1", 0, told(one, one.units, other["page 1"][0]))
            self.assertIs(shows_breaks([Buckets(1)], [Pages(1)], Breaks(shape, silent)), True)
            self.assertIs(shows_breaks([Pages(1)], [Buckets(1)], Breaks(shape, silent)), False)
        # A shape on which both cannot be laid out.
        large = Shape(list("abcd"), 8)
        parted = Parted(Table(large), Table(large, {("a", 0): 1}))
        silent = Silent("block 0", 0, parted)
        self.assertIs(shows_breaks([], [Blocks(Every(1))], Breaks(large, silent)), True)
        self.assertIs(shows_breaks([], [Blocks(Every(1)), Cells(2)], Breaks(large, silent)), False)
        self.assertIs(shows_breaks([Blocks(Every(1)), Cells(2)], [Blocks(Every(1))], Breaks(large, silent)), False)
        paper = tells(FULL, pages)
        self.assertIs(shows_tells(FULL, pages, Tells({**paper.tolds, ("page 0", 0): Told(2, {("cell 1 0", 0): 2})})), True)
        self.assertIs(shows_tells(FULL, pages, Tells({("page 0", False): paper.tolds["page 0", 0],
                                                      ("page 1", 0): paper.tolds["page 1", 0]})), False)

    def test_any_values(self):
        for value in any_values():
            self.assertIs(shows_tells(FULL, FULL, value), False)
            self.assertIs(shows_alike(FULL, FULL, value), False)
            self.assertIs(shows_breaks([Buckets(1)], [Pages(1)], value), False)
            for other in any_values():
                for paper in (Tells(value), Silent(value, other, other), Alike(value, other), Apart(value, other),
                              Throughout(value), Breaks(value, other), Breaks(TWO, value), Silent("page 0", 0, value)):
                    self.assertIs(shows_tells(FULL, FULL, paper), False)
                    self.assertIs(shows_alike(FULL, FULL, paper), False)
                    self.assertIs(shows_breaks([Buckets(1)], [Pages(1)], paper), False)


class Papers(Case):
    def test_papers_of_any_values(self):
        classes = {Tells: "tolds", Silent: "unit index parted", Alike: "there back", Apart: "side silent",
                   Throughout: "shapes", Breaks: "shape silent"}
        for kind, names in classes.items():
            fields = names.split()
            for value in any_values():
                given = [value] + [[value]] * (len(fields) - 1)
                made = kind(*given)
                self.same([getattr(made, name) for name in fields], given)
                self.assertEqual(made, kind(**dict(zip(fields, given))))
                self.assertIs(bool(made), kind in (Tells, Alike, Throughout))
                self.assertNotEqual(made, value)
                for at in range(len(fields)):
                    self.assertNotEqual(made, kind(*[[[value]] if k == at else one for k, one in enumerate(given)]))
                for other, more in classes.items():
                    if other is not kind and len(more.split()) == len(fields):
                        self.assertNotEqual(made, other(*given))

    def test_questions_of_no_layout(self):
        # Sizes that come round, days first: both answer each place, so they are alike.
        one = Layout(TWO, Blocks(Sizes(1, 2), "days"))
        self.assertTrue(alike(one, Layout(TWO, Blocks(Every(4)))))
        self.assertTrue(tells_all(one, one.units, [Question(TWO, {("a", 0): 1})]))


if __name__ == "__main__":
    unittest.main()
