"""Parts: places, operators, texts, and each error."""

import itertools
import unittest

from rowvault.errors import BadCount, BadName, BadPart, BadPlace, BadText
from rowvault.parts import Part
from rowvault.shapes import Shape
from tests.helpers import OTHER, TWO, Case, any_values, is_int, is_of, is_place
from tests.reading import check_reads

SMALL = [Shape(["a"], 1), TWO, Shape(["a", "b", "c"], 1), Shape(["x"], 3)]


def lots(shape):
    return [lot for many in range(len(shape) + 1) for lot in itertools.combinations(shape.places, many)]


def parts(shape):
    return [Part(shape, *lot) for lot in lots(shape)]


class Made(Case):
    def test_places(self):
        for shape in SMALL:
            for lot in lots(shape):
                part = Part(shape, *reversed(lot), *lot)
                self.same(part.places, lot)
                self.same(list(part), list(lot))
                self.assertEqual((part.shape, len(part), bool(part)), (shape, len(lot), bool(lot)))
                self.assertIs(bool(part), len(lot) > 0)
                for at, place in enumerate(lot):
                    self.same(part[at], place)
                for place in shape:
                    self.assertIs(place in part, place in lot)

    def test_wrong_values(self):
        for value in any_values():
            if not isinstance(value, Shape):
                self.raises(BadPart("shape"), Part, value, value)
                for make in (Part.whole, Part.none, Part.of_keys):
                    self.raises(BadPart("shape"), make, value)
                self.raises(BadPart("shape"), Part.of_keys, value, "z")
                self.raises(BadPart("shape"), Part.of_days, value, -1, -1)
                self.raises(BadPart("shape"), Part.read, "z", value)
            if not is_place(value, TWO):
                self.raises(BadPlace(value), Part, TWO, ("a", 1), value, "b")

    def test_static_methods(self):
        for shape in SMALL:
            self.same(Part.whole(shape).places, shape.places)
            self.same(Part.none(shape).places, ())
            for many in range(len(shape.key_names) + 1):
                for keys in itertools.permutations(shape.key_names, many):
                    wanted = tuple(place for place in shape if place[0] in keys)
                    self.same(Part.of_keys(shape, *keys, *keys).places, wanted)
            for first in range(shape.days + 1):
                for after in range(shape.days + 1):
                    wanted = tuple(place for place in shape if place[1] in range(first, after))
                    self.same(Part.of_days(shape, first, after).places, wanted)
        self.same(Part.of_days(shape=TWO, first=1, after=2).places, (("a", 1), ("b", 1)))

    def test_static_errors(self):
        for value in any_values():
            if value not in ("a", "b") or not isinstance(value, str):
                self.raises(BadName(value), Part.of_keys, TWO, "a", value, "c")
            if not (is_int(value) and 0 <= value <= 2):
                self.raises(BadCount(value), Part.of_days, TWO, value, 3)
                self.raises(BadCount(value), Part.of_days, TWO, 2, value)
        self.raises(BadCount(3), Part.of_days, TWO, 0, 3)
        self.raises_first(Part.of_days, {"shape": TWO, "first": 1, "after": 0},
                          [("shape", "a", BadPart("shape")), ("first", True, BadCount(True)),
                           ("after", -1, BadCount(-1))])


class Operators(Case):
    def test_sets(self):
        for shape in (TWO, SMALL[3]):
            for one, other in itertools.product(parts(shape), repeat=2):
                left, right = set(one.places), set(other.places)
                for made, wanted in ((one & other, left & right), (one | other, left | right),
                                     (one - other, left - right), (one ^ other, left ^ right),
                                     (~one, set(shape.places) - left)):
                    self.assertIsInstance(made, Part)
                    self.same(made.places, tuple(sorted(wanted)))
                    self.assertEqual(made.shape, shape)
                self.assertIs(one <= other, left <= right)
                self.assertIs(one < other, left < right)
                self.assertIs(one == other, left == right)

    def test_errors(self):
        part = Part(TWO, ("a", 1))
        calls = (part.__and__, part.__or__, part.__sub__, part.__xor__, part.__le__, part.__lt__)
        for value in any_values():
            if not is_of(value, Part, TWO):
                for call in calls:
                    self.raises(BadPart("other"), call, value)
                self.assertIs(part == value, False)
        self.assertIs(Part(TWO) == Part(OTHER), False)
        self.assertIs(Part(Shape(["b", "a"], 2)) == Part(TWO), True)

    def test_any_value_in(self):
        for part in parts(TWO):
            for value in any_values():
                self.assertIs(value in part, is_place(value, TWO) and value in part.places)
                if not (is_int(value) and 0 <= value < len(part)):
                    self.raises(BadCount(value), part.__getitem__, value)
        self.raises(BadCount(0), Part.none(TWO).__getitem__, 0)


class Texts(Case):
    def test_read_back(self):
        for shape in SMALL:
            for part in parts(shape):
                wanted = " , ".join(f"{key} {day}" for key, day in part.places) or "-"
                self.assertEqual(str(part), wanted)
                self.assertEqual(Part.read(str(part), shape), part)
        self.assertEqual(Part.read(text="a 1", shape=TWO), Part(TWO, ("a", 1)))

    def test_words(self):
        for shape in SMALL[1:]:
            texts = [str(part) for part in parts(shape)]
            more = {tuple(text.split(" ")) + (",",) for text in texts if text != "-"}
            vocabulary = ["a", "b", "x", "c", "0", "1", "2", "01", "-", ",", "", "a 0", "\n", "0\n"]
            many = check_reads(self, lambda text: Part.read(text, shape), texts, vocabulary, more=more)
            self.assertGreater(many, 300)

    def test_wrong_values(self):
        for value in any_values():
            if not isinstance(value, str):
                self.raises(BadText(0, 0), Part.read, value, TWO)
                if not isinstance(value, Shape):
                    self.raises(BadPart("shape"), Part.read, value, value)
        self.raises(BadText(0, 3), Part.read, "b 1 ,", TWO)
        self.raises(BadText(0, 3), Part.read, "b 1 , ", TWO)


if __name__ == "__main__":
    unittest.main()
