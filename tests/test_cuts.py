"""Cuts: the blocks on many shapes in both orders, texts, and each error."""

import itertools
import unittest

from rowvault.cuts import Cut, Every, Leads, Sizes
from rowvault.errors import BadCount, BadKind, BadShape, BadText, TooMany
from rowvault.shapes import Shape
from tests.helpers import TWO, Case, any_values, is_int
from tests.reading import check_reads

SHAPES = [Shape(["a"], 1), TWO, Shape(list("abc"), 3), Shape(list("abcdef"), 6), Shape(["x", "y"], 5)]


def placed(shape, order):
    return sorted(shape.places, key=lambda place: place if order == "keys" else place[::-1])


def by_numbers(places, numbers):
    """The blocks, each place having the number of its block."""
    return tuple(tuple(place for place, _ in run)
                 for _, run in itertools.groupby(zip(places, numbers), key=lambda pair: pair[1]))


def numbers_of(sizes, many):
    """The number of the block of each place, the sizes coming round."""
    turns = itertools.cycle(sizes)
    numbers = itertools.chain.from_iterable([at] * next(turns) for at in itertools.count())
    return list(itertools.islice(numbers, many))


class Blocks(Case):
    def check(self, cut, shape, order, wanted):
        self.same(cut(shape, order), wanted)
        self.same(cut(order=order, shape=shape), wanted)
        if order == "keys":
            self.same(cut(shape), wanted)

    def test_every(self):
        for shape, order in itertools.product(SHAPES, ("keys", "days")):
            for size in (1, 2, 3, 5, 35, 36):
                wanted = by_numbers(placed(shape, order), [at // size for at in range(len(shape))])
                self.check(Every(size), shape, order, wanted)

    def test_leads(self):
        for shape, order in itertools.product(SHAPES, ("keys", "days")):
            places = placed(shape, order)
            wanted = by_numbers(places, [place[0] if order == "keys" else place[1] for place in places])
            self.check(Leads(), shape, order, wanted)

    def test_sizes(self):
        lots = [(1,), (36,), (1, 2), (3, 1, 2), (2,) * 36, (36, 1), tuple(range(1, 37))]
        for shape, order, sizes in itertools.product(SHAPES, ("keys", "days"), lots):
            wanted = by_numbers(placed(shape, order), numbers_of(sizes, len(shape)))
            self.check(Sizes(*sizes), shape, order, wanted)

    def test_errors(self):
        for cut in (Every(2), Leads(), Sizes(1, 2)):
            for value in any_values():
                if not isinstance(value, Shape):
                    self.raises(BadShape("shape"), cut, value, "x")
                if not isinstance(value, str) or value not in ("keys", "days"):
                    self.raises(BadKind("order"), cut, TWO, value)


class Made(Case):
    def test_attributes(self):
        self.same([Every(1).size, Every(size=36).size, Sizes(3, 1).sizes], [1, 36, (3, 1)])
        for cut in (Every(1), Leads(), Sizes(1)):
            self.assertIsInstance(cut, Cut)

    def test_wrong_values(self):
        self.raises(BadCount(None), Sizes)
        self.raises(TooMany("sizes", 36), Sizes, *[1] * 37)
        self.raises(BadCount(0), Sizes, *[1] * 37, 0)
        for value in any_values():
            if not (is_int(value) and 1 <= value <= 36):
                self.raises(BadCount(value), Every, value)
                self.raises(BadCount(value), Sizes, 2, value, "x")

    def test_equal(self):
        cuts = [Every(1), Every(2), Leads(), Sizes(1), Sizes(1, 2), Sizes(2, 1), Sizes(1, 1)]
        for (i, one), (k, other) in itertools.product(enumerate(cuts), repeat=2):
            self.assertIs(one == other, i == k)
        for cut in cuts:
            self.assertIs(cut == Cut.read(str(cut)), True)
            for value in any_values():
                if not isinstance(value, Cut):
                    self.assertIs(cut == value, False)


class Texts(Case):
    def test_read_back(self):
        for cut, text in ((Every(3), "every 3"), (Leads(), "leads"), (Sizes(1, 2), "sizes 1 2"),
                          (Sizes(*range(1, 37)), "sizes " + " ".join(str(k) for k in range(1, 37)))):
            self.assertEqual(str(cut), text)
            self.assertEqual(Cut.read(text), cut)
            self.assertIs(type(Cut.read(text=text)), type(cut))

    def test_words(self):
        some = ["1", "9", "36"]
        wholes = {("leads",)} | {("every", size) for size in some}
        wholes |= {("sizes", *lot) for many in range(1, 7) for lot in itertools.product(some, repeat=many)}
        texts = ["every 9", "leads", "sizes 1", "sizes 1 36", "sizes 9 9 1 36 1"]
        vocabulary = ["every", "leads", "sizes", "1", "36", "37", "0", "-1", "01", "+1", "", ",", "-", "\n", "blocks",
                      "9" * 5000]
        self.assertGreater(check_reads(self, Cut.read, texts, vocabulary, wholes), 150)

    def test_many_sizes(self):
        self.raises(BadText(0, 37), Cut.read, "sizes" + " 2" * 37)
        self.raises(BadText(0, 37), Cut.read, "sizes" + " 2" * 36 + " x")
        self.raises(BadText(0, 36), Cut.read, "sizes" + " 2" * 35 + " 37 2")

    def test_wrong_values(self):
        for value in any_values():
            if not isinstance(value, str):
                self.raises(BadText(0, 0), Cut.read, value)
        self.raises(BadText(0, 1), Cut.read, "sizes")
        self.raises(BadText(0, 0), Cut.read, "cut")


if __name__ == "__main__":
    unittest.main()
