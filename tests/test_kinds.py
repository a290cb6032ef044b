"""Kinds: the units and the answers of each kind, reckoned place by place; texts, and each error."""

import itertools
import unittest

from rowvault.cuts import Cut, Every, Leads, Sizes
from rowvault.errors import BadCount, BadKind, BadShape, BadText
from rowvault.kinds import Blocks, Buckets, Cells, Kind, Pages, Stripes
from rowvault.questions import Question
from rowvault.shapes import Shape
from tests.helpers import TWO, Case, any_values, is_int
from tests.reading import check_reads
from tests.test_cuts import SHAPES

CUTS = [Every(1), Every(2), Every(5), Every(36), Leads(), Sizes(1, 2), Sizes(4, 1, 3)]
ALL_BLOCKS = [Blocks(cut, order) for cut in CUTS for order in ("keys", "days")]
BOUNDS = [(Pages, 1, 6), (Cells, 2, 6), (Buckets, 1, 8), (Stripes, 2, 6)]


def groups(shape, number_of):
    """The places by their numbers, both ascending."""
    numbers = sorted({number_of(at, place) for at, place in enumerate(shape.places)})
    return [(number, [place for at, place in enumerate(shape.places) if number_of(at, place) == number])
            for number in numbers]


class Units(Case):
    def check(self, kind, shape, wanted, *blocks):
        """The pairs are as they are wanted, questions being dicts of weights."""
        steps = kind.units_on(shape, *blocks)
        self.assertIs(iter(steps), steps)
        pairs = list(steps)
        for unit, answers in pairs:
            self.assertIsInstance(answers, tuple)
            self.assertTrue(all(type(one) is Question and one.shape == shape for one in answers))
        found = [(unit, [one.weights for one in answers]) for unit, answers in pairs]
        self.assertEqual(found, wanted)

    def test_blocks(self):
        for kind, shape in itertools.product(ALL_BLOCKS, SHAPES):
            blocks = kind.cut(shape, kind.order)
            wanted = [(f"block {at}", [{place: 1} for place in block]) for at, block in enumerate(blocks)]
            self.check(kind, shape, wanted)
            self.check(kind, shape, wanted, "x")

    def test_pages(self):
        for room, shape in itertools.product(range(1, 7), SHAPES):
            keys = list(shape.key_names)
            wanted = [(f"page {at}", [{(key, day): 1 for day in range(shape.days)} for key in keys[at * room:][:room]])
                      for at in range(len(keys)) if at * room < len(keys)]
            self.check(Pages(room), shape, wanted, None)

    def test_cells(self):
        for base, shape in itertools.product(range(2, 7), SHAPES):
            wanted = []
            for level in range(1, 10):
                if base ** (level - 1) < len(shape):
                    for number, lot in groups(shape, lambda at, place, wide=base ** level: at // wide):
                        wanted.append((f"cell {level} {number}", [dict.fromkeys(lot, 1)]))
            self.check(Cells(base), shape, wanted)

    def test_no_cells(self):
        self.assertEqual(list(Cells(2).units_on(Shape(["a"], 1))), [])

    def test_buckets(self):
        for width, shape in itertools.product(range(1, 9), SHAPES):
            wanted = [(f"bucket {number}", [dict.fromkeys(lot, 1)])
                      for number, lot in groups(shape, lambda at, place: place[1] // width)]
            self.check(Buckets(width), shape, wanted, 7)

    def test_stripes(self):
        for width, parities, blocks, shape in itertools.product((2, 3, 6), (1, 2), ALL_BLOCKS, SHAPES):
            parts = blocks.cut(shape, blocks.order)
            wanted = []
            for stripe, parity in itertools.product(range(len(parts)), range(parities)):
                own = [(k, part) for k, part in enumerate(parts) if k // width == stripe]
                if own:
                    many = max(len(part) for _, part in own)
                    wanted.append((f"parity {stripe} {parity}",
                                   [{part[j]: (k % width + 1) ** parity for k, part in own if j < len(part)}
                                    for j in range(many)]))
            self.check(Stripes(width, parities), shape, wanted, blocks)

    def test_errors(self):
        for kind in (Blocks(Every(2)), Pages(1), Cells(2), Buckets(1), Stripes(2)):
            for value in any_values():
                if not isinstance(value, Shape):
                    self.raises(BadShape("shape"), next_of, kind, value, "x")
        for value in any_values():
            if not isinstance(value, Blocks):
                self.raises(BadKind("blocks"), next_of, Stripes(2), TWO, value)
        self.raises(BadKind("blocks"), lambda: next(Stripes(2).units_on(TWO)))


def next_of(kind, shape, blocks):
    """The first pair; a generator raises its errors at the latest when it is requested."""
    return next(kind.units_on(shape=shape, blocks=blocks))


class Made(Case):
    def test_attributes(self):
        kind = Blocks(order="days", cut=Leads())
        self.assertEqual((kind.cut, kind.order, Blocks(Leads()).order), (Leads(), "days", "keys"))
        self.same([Pages(room=6).room, Cells(base=2).base, Buckets(width=8).width], [6, 2, 8])
        self.same([(Stripes(2).width, Stripes(2).parities), (Stripes(6, 2).width, Stripes(parities=2, width=6).parities)],
                  [(2, 1), (6, 2)])

    def test_wrong_values(self):
        for value in any_values():
            if not isinstance(value, Cut):
                self.raises(BadKind("cut"), Blocks, value, "x")
            if not isinstance(value, str) or value not in ("keys", "days"):
                self.raises(BadKind("order"), Blocks, Leads(), value)
            for kind, low, high in BOUNDS:
                if not (is_int(value) and low <= value <= high):
                    self.raises(BadCount(value), kind, value)
            if not (is_int(value) and 1 <= value <= 2):
                self.raises(BadCount(value), Stripes, 2, value)
                self.raises(BadCount("x"), Stripes, "x", value)

    def test_bounds(self):
        for kind, low, high in BOUNDS:
            for number in range(-1, 12):
                if low <= number <= high:
                    self.assertEqual(kind(number), kind(number))
                else:
                    self.raises(BadCount(number), kind, number)
        for number in (-1, 0, 3, 4):
            self.raises(BadCount(number), Stripes, 2, number)
        self.assertEqual([Stripes(2, 1).parities, Stripes(2, 2).parities], [1, 2])

    def test_equal(self):
        kinds = [*ALL_BLOCKS, Pages(1), Pages(2), Cells(2), Cells(3), Buckets(1), Buckets(2), Stripes(2), Stripes(2, 2),
                 Stripes(3)]
        for (i, one), (k, other) in itertools.product(enumerate(kinds), repeat=2):
            self.assertIs(one == other, i == k)
        for kind in kinds:
            self.assertIsInstance(kind, Kind)
            for value in any_values():
                if not isinstance(value, Kind):
                    self.assertIs(kind == value, False)


class Texts(Case):
    def test_read_back(self):
        texts = ["blocks keys every 2", "blocks days leads", "blocks keys sizes 1 2", "pages 1", "cells 2", "buckets 1",
                 "stripes 2 1", "stripes 6 2"]
        kinds = [Blocks(Every(2)), Blocks(Leads(), "days"), Blocks(Sizes(1, 2)), Pages(1), Cells(2), Buckets(1),
                 Stripes(2), Stripes(6, 2)]
        for text, kind in zip(texts, kinds):
            self.assertEqual(str(kind), text)
            self.assertEqual(Kind.read(text), kind)
            self.assertIs(type(Kind.read(text=text)), type(kind))

    def test_words(self):
        wholes = {(word, str(number)) for word, low, high in (("pages", 1, 6), ("cells", 2, 6), ("buckets", 1, 8))
                  for number in range(low, high + 1)}
        wholes |= {("stripes", str(width), parities) for width in range(2, 7) for parities in "12"}
        some = ["1", "2", "6", "9", "36"]
        cuts = [("leads",), *[("every", size) for size in some]]
        cuts += [("sizes", *lot) for many in range(1, 6) for lot in itertools.product(some, repeat=many)]
        wholes |= {("blocks", order, *cut) for order in ("keys", "days") for cut in cuts}
        texts = ["blocks keys every 2", "blocks days leads", "blocks keys sizes 1 36 2", "pages 6", "cells 2", "buckets 1",
                 "stripes 2 1"]
        vocabulary = ["blocks", "pages", "cells", "buckets", "stripes", "keys", "days", "leads", "every", "sizes", "0",
                      "1", "2", "6", "9", "36", "37", "-1", "01", "", ",", "-", "\n", "block"]
        self.assertGreater(check_reads(self, Kind.read, texts, vocabulary, wholes), 500)

    def test_wrong_values(self):
        for value in any_values():
            if not isinstance(value, str):
                self.raises(BadText(0, 0), Kind.read, value)
        self.raises(BadText(0, 39), Kind.read, "blocks keys sizes" + " 1" * 37)
        for text, word in (("pages 7", 1), ("cells 1", 1), ("cells 7", 1), ("buckets 9", 1), ("stripes 1 1", 1),
                           ("stripes 7 1", 1), ("stripes 2 3", 2), ("stripes 2", 2), ("blocks keys", 2), ("blocks", 1)):
            self.raises(BadText(0, word), Kind.read, text)


if __name__ == "__main__":
    unittest.main()
