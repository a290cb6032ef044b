"""Layouts: kinds in any order, units, answers, operators, texts, and each error."""

import itertools
import random
import unittest

from rowvault.cuts import Every, Leads, Sizes
from rowvault.errors import BadKind, BadLayout, BadPlace, BadShape, BadText, BadUnit, TooMany
from rowvault.kinds import Blocks, Buckets, Cells, Kind, Pages, Stripes
from rowvault.layouts import Layout
from rowvault.shapes import Shape
from rowvault.spans import Span
from tests.helpers import OTHER, TWO, Case, any_values, is_of, is_place
from tests.reading import changed

SHAPES = [Shape(["a"], 1), TWO, Shape(list("abc"), 3), Shape(["x", "y"], 5)]
KINDS = [Blocks(Every(2)), Pages(1), Cells(3), Buckets(2), Stripes(2, 2)]
WORDS = ["block", "page", "cell", "bucket", "parity"]


def lots_of_kinds():
    """All lots of kinds of which a layout can be made, in order."""
    for many in range(6):
        for lot in itertools.combinations(range(5), many):
            if 4 not in lot or 0 in lot:
                yield [KINDS[at] for at in lot]


def by_hand(shape, kinds):
    """The pairs of a unit and its answers, of kinds in order."""
    blocks = kinds[0] if kinds and isinstance(kinds[0], Blocks) else None
    return [pair for kind in kinds for pair in kind.units_on(shape, blocks)]


class Made(Case):
    def test_kinds_and_units(self):
        for shape, kinds in itertools.product(SHAPES, lots_of_kinds()):
            pairs = by_hand(shape, kinds)
            for given in itertools.islice(itertools.permutations(kinds), 24):
                layout = Layout(shape, *given)
                self.assertEqual(layout.kinds, tuple(kinds))
                self.same(layout.units, tuple(unit for unit, _ in pairs))
            self.assertEqual((layout.shape, len(layout), list(layout)), (shape, len(pairs), [one for one, _ in pairs]))
            self.assertEqual([WORDS.index(unit.split(" ")[0]) for unit in layout],
                             sorted(WORDS.index(unit.split(" ")[0]) for unit in layout))
            for unit, answers in pairs:
                self.same(layout[unit], answers)
                self.assertIs(unit in layout, True)

    def test_errors(self):
        for value in any_values():
            if not isinstance(value, Shape):
                self.raises(BadShape("shape"), Layout, value, value)
            if not isinstance(value, Kind):
                self.raises(BadKind(1), Layout, TWO, Stripes(2), value, "x")
        self.raises(BadKind(2), Layout, TWO, Pages(1), Stripes(2), Pages(2), "x")
        self.raises(BadKind(1), Layout, TWO, Pages(1), Pages(1))
        self.raises(BadKind("blocks"), Layout, TWO, Pages(1), Stripes(2))
        wide = Shape(list("abcdef"), 6)
        self.raises(BadKind("blocks"), Layout, wide, Cells(2), Stripes(2))
        self.raises(TooMany("units", 60), Layout, wide, Cells(2), Blocks(Every(1)))

    def test_most_units(self):
        self.assertEqual(Layout.MOST, 60)
        wide = Shape(list("abcdef"), 6)
        # 36 blocks and 18 parities make 54; six pages make 60.
        kinds = [Blocks(Every(1)), Stripes(2), Pages(1)]
        self.assertEqual(len(Layout(wide, *kinds)), 60)
        self.raises(TooMany("units", 60), Layout, wide, *kinds, Buckets(6))
        self.raises(TooMany("units", 60), lambda: Layout(wide, *kinds) + Buckets(6))

    def test_units_counted_ahead(self):
        cuts = [Every(1), Every(3), Leads(), Sizes(1, 2)]
        for keys, days in ((1, 1), (1, 8), (2, 3), (6, 6), (5, 7), (3, 1)):
            shape = Shape(list("abcdef")[:keys], days)
            kinds = [Blocks(cut, order) for cut in cuts for order in ("keys", "days")]
            kinds += [Pages(room) for room in range(1, 7)] + [Cells(base) for base in range(2, 7)] + [Buckets(width) for width in range(1, 9)]
            for kind in kinds:
                self.assertEqual(kind.count_on(shape, None), len(list(kind.units_on(shape))))
            for blocks in kinds[:8]:
                for kind in (Stripes(2), Stripes(3, 2), Stripes(6, 2)):
                    self.assertEqual(kind.count_on(shape, blocks), len(list(kind.units_on(shape, blocks))))

    def test_never_changes(self):
        layout = Layout(TWO, Pages(1))
        layout + Buckets(1)
        self.assertEqual(layout, Layout(TWO, Pages(1)))


class Asked(Case):
    def test_wrong_units_and_places(self):
        for kinds in lots_of_kinds():
            layout = Layout(TWO, *kinds)
            for value in any_values():
                self.assertIs(value in layout, isinstance(value, str) and value in layout.units)
                if not (isinstance(value, str) and value in layout.units):
                    self.raises(BadUnit(value), layout.__getitem__, value)
                    self.raises(BadUnit(value), lambda: next(layout.answers(list(layout.units) + [value, "x"])))
                    self.raises(BadUnit(value), layout.span_of, (*layout.units, value, "x"))
                if not isinstance(value, (list, tuple)):
                    self.raises(BadUnit(None), layout.span_of, value)
                    if value is not None:
                        self.raises(BadUnit(None), lambda: next(layout.answers(value)))
                if not is_place(value, TWO):
                    self.raises(BadPlace(value), layout.touched_by, value)

    def test_touched_by(self):
        for shape, kinds in itertools.product(SHAPES, lots_of_kinds()):
            layout = Layout(shape, *kinds)
            for place in shape:
                wanted = [unit for unit, answers in by_hand(shape, kinds)
                          if any(place in answer.weights for answer in answers)]
                self.same(layout.touched_by(place), tuple(wanted))

    def test_answers_and_spans(self):
        chance = random.Random(13)
        for shape, kinds in itertools.product(SHAPES, lots_of_kinds()):
            layout = Layout(shape, *kinds)
            wanted = [((unit, at), one) for unit, answers in by_hand(shape, kinds) for at, one in enumerate(answers)]
            self.assertEqual(list(layout.answers()), wanted)
            self.assertEqual(list(layout.answers(None)), wanted)
            for _ in range(3):
                units = [unit for unit in layout if chance.random() < 0.5]
                some = [pair for pair in wanted if pair[0][0] in units]
                given = units + units[::2]
                chance.shuffle(given)
                self.assertEqual(list(layout.answers(units=given)), some)
                self.assertEqual(list(layout.answers(tuple(given))), some)
                span = layout.span_of(given)
                self.assertEqual(span, Span(shape, *[one for _, one in some]))
                self.assertEqual(span.given, tuple(one for _, one in some))


class Operators(Case):
    def test_with_and_without_kinds(self):
        for kinds in lots_of_kinds():
            layout = Layout(TWO, *kinds)
            for kind in [*KINDS, Blocks(Leads(), "days"), Pages(2), Cells(2), Buckets(1), Stripes(3)]:
                wanted = [one for one in kinds if type(one) is not type(kind)] + [kind]
                if isinstance(kind, Stripes) and not any(isinstance(one, Blocks) for one in wanted):
                    self.raises(BadKind("blocks"), lambda: layout + kind)
                else:
                    self.assertEqual(layout + kind, Layout(TWO, *wanted))
            for word, kind in zip(WORDS, KINDS):
                wanted = [one for one in kinds if one != kind]
                if kind not in kinds:
                    self.raises(BadKind("word"), lambda: layout - word)
                elif word == "block" and KINDS[4] in kinds:
                    self.raises(BadKind("blocks"), lambda: layout - word)
                else:
                    self.assertEqual(layout - word, Layout(TWO, *wanted))

    def test_orders(self):
        layouts = [Layout(TWO, *kinds) for kinds in lots_of_kinds()] + [Layout(TWO, Pages(2)), Layout(TWO, Blocks(Leads()))]
        for one, other in itertools.product(layouts, repeat=2):
            held = all(kind in other.kinds for kind in one.kinds)
            self.assertIs(one <= other, held)
            self.assertIs(one < other, held and len(one.kinds) < len(other.kinds))
            self.assertIs(one == other, one.kinds == other.kinds)

    def test_errors(self):
        layout = Layout(TWO, Pages(1))
        for value in any_values():
            if not isinstance(value, Kind):
                self.raises(BadKind("other"), layout.__add__, value)
            self.raises(BadKind("word"), layout.__sub__, value)
            if not is_of(value, Layout, TWO):
                self.raises(BadLayout("other"), layout.__le__, value)
                self.raises(BadLayout("other"), layout.__lt__, value)
            self.assertIs(layout == value, False)
        self.assertNotEqual(Layout(TWO), Layout(OTHER))


SIZES = [" ".join(["sizes", *lot]) for many in range(1, 6) for lot in itertools.product("239", repeat=many)]


def first_wrong(lines):
    """The line and the word that cannot stand, reckoned from lists of right lines; None for a right text."""
    lots = [" ".join(lot) for many in (1, 2, 3) for lot in itertools.combinations(("a", "b", "shape"), many)]
    shapes = {f"shape {keys} days {days}" for keys in lots for days in range(1, 9)}
    rights = [{f"blocks {order} {cut}" for order in ("keys", "days")
               for cut in ("leads", *[f"every {size}" for size in range(1, 37)], *SIZES)},
              {f"pages {room}" for room in range(1, 7)}, {f"cells {base}" for base in range(2, 7)},
              {f"buckets {width}" for width in range(1, 9)},
              {f"stripes {width} {many}" for width in range(2, 7) for many in (1, 2)}]
    last = -1
    blocks = False
    for at, line in enumerate(lines):
        later = shapes
        if at > 0:
            later = set().union(*[own for k, own in enumerate(rights) if k > last and (k < 4 or blocks)])
        wrong = first_word(line.split(" "), [right.split(" ") for right in later])
        if wrong is not None:
            return at, wrong
        if at > 0:
            last = next(k for k, own in enumerate(rights) if line in own)
            blocks = blocks or last == 0
    return None


def first_word(words, rights):
    for k in range(len(words)):
        if not any(words[:k + 1] == right[:k + 1] for right in rights):
            return k
    return None if words in rights else len(words)


class Texts(Case):
    def test_read_back(self):
        for shape, kinds in itertools.product(SHAPES, lots_of_kinds()):
            layout = Layout(shape, *kinds)
            self.assertEqual(str(layout), "\n".join([f"shape {shape}", *[str(kind) for kind in kinds]]))
            self.assertEqual(Layout.read(str(layout)), layout)
        self.assertEqual(Layout.read(text="shape a days 1"), Layout(Shape(["a"], 1)))

    def test_words(self):
        texts = ["shape a b days 2", "shape a days 1\nblocks keys every 2\nstripes 2 1", "shape b days 8\npages 1\ncells 2",
                 "shape a b days 2\nblocks days sizes 2 3 2\npages 6\ncells 6\nbuckets 8\nstripes 6 2"]
        lines = ["shape", "shape a days 1", "blocks keys leads", "blocks keys", "pages 2", "cells", "buckets 3", "",
                 "stripes 3 2", "stripes 2", "pages 7", " pages 2", "blocks days every 3 2"]
        vocabulary = ["shape", "a", "b", "days", "2", "3", "9", "0", "blocks", "pages", "stripes", "leads", "", "-"]
        seen = {}
        for text in texts:
            for other in changed(text.split("\n"), lines):
                seen["\n".join(other)] = True
            for at, line in enumerate(text.split("\n")):
                for words in changed(line.split(" "), vocabulary):
                    other = text.split("\n")
                    other[at] = " ".join(words)
                    seen["\n".join(other)] = True
        for text in seen:
            wrong = first_wrong(text.split("\n"))
            if wrong is not None:
                self.raises(BadText(*wrong), Layout.read, text)
            else:
                self.assertEqual(str(Layout.read(text)), text)
        self.assertGreater(len(seen), 1000)

    def test_what_the_class_raises(self):
        self.raises(TooMany("places", 36), Layout.read, "shape a b c d e f days 8\npages 1")
        self.raises(BadText(1, 1), Layout.read, "shape a b c d e f days 8\npages 7")
        self.raises(TooMany("units", 60), Layout.read, "shape a b c d e f days 6\nblocks keys every 1\ncells 2")

    def test_wrong_values(self):
        for value in any_values():
            if not isinstance(value, str):
                self.raises(BadText(0, 0), Layout.read, value)
        self.raises(BadText(0, 0), Layout.read, "")
        self.raises(BadText(1, 0), Layout.read, "shape a days 1\n")
        self.raises(BadText(1, 0), Layout.read, "shape a days 1\nstripes 2 1")
        self.raises(BadText(2, 0), Layout.read, "shape a days 1\npages 1\npages 1")
        self.raises(BadText(0, 3), Layout.read, "shape a days")
        self.raises(BadText(1, 3), Layout.read, "shape a days 1\nblocks keys every")
        self.assertEqual(Layout.read("shape a days 1\nblocks days sizes 3 1").kinds, (Blocks(Sizes(3, 1), "days"),))


if __name__ == "__main__":
    unittest.main()
