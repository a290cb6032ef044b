"""Shapes: places, operators, texts, and each error."""

import itertools
import unittest

from rowvault.checks import RESERVED, is_name
from rowvault.errors import BadCount, BadPlace, BadShape, BadText, TooMany
from rowvault.shapes import Shape
from tests.helpers import Case, any_values, is_int, is_place
from tests.reading import check_reads


def too_many(words):
    """The error of a text with more than 36 places."""
    return TooMany("places", 36) if (len(words) - 2) * int(words[-1]) > 36 else None


class Made(Case):
    def test_places(self):
        for keys in (["a"], ["b", "a"], ("z", "ab", "aa"), list("fedcba")):
            for days in range(1, 7):
                shape = Shape(keys, days)
                self.same(shape.key_names, tuple(sorted(keys)))
                self.same(shape.days, days)
                places = tuple((key, day) for key in sorted(keys) for day in range(days))
                self.same(shape.places, places)
                self.same(list(shape), list(places))
                self.assertEqual(len(shape), len(places))
                for at, place in enumerate(places):
                    self.same(shape[at], place)
                    self.same(shape.index_of(place), at)
                    self.assertIs(place in shape, True)

    def test_bounds(self):
        self.assertEqual(len(Shape(["a", "b", "c", "d"], 8)), 32)
        self.assertEqual(len(Shape(list("abcdef"), 6)), 36)
        self.assertEqual(len(Shape(["abcdefgh"], 1)), 1)
        self.raises(TooMany("places", 36), Shape, list("abcdef"), 7)
        self.raises(TooMany("places", 36), Shape, list("abcde"), 8)
        self.raises(BadShape("keys"), Shape, list("abcdefg"), 1)
        self.raises(BadShape("keys"), Shape, [], 1)
        self.raises(BadShape("keys"), Shape, ["a", "b", "a"], 1)
        self.raises(BadShape("keys"), Shape, ["abcdefghi"], 1)
        for key in ("", "A", "a1", "a b", "ä", "a-", *RESERVED):
            self.raises(BadShape("keys"), Shape, ["b", key], 1)

    def test_wrong_values(self):
        for value in any_values():
            if value not in (["a"], ("a",)):
                self.raises(BadShape("keys"), Shape, value, 9)
            names = isinstance(value, str) and value in ("a", "b")
            if not names:
                self.raises(BadShape("keys"), Shape, ["c", value], 2)
            if not (is_int(value) and 1 <= value <= 8):
                self.raises(BadShape("days"), Shape, ["a"], value)

    def test_first_error(self):
        self.raises_first(Shape, {"keys": ["a"], "days": 2},
                          [("keys", "a", BadShape("keys")), ("days", True, BadShape("days"))])

    def test_names(self):
        self.assertEqual(len(RESERVED), 20)
        for value in any_values():
            self.assertIs(is_name(value), value in ("a", "b") if isinstance(value, str) else False)

    def test_later_changes(self):
        keys = ["b", "a"]
        shape = Shape(keys, 2)
        self.assertEqual(keys, ["b", "a"])
        keys.append("c")
        self.assertEqual(shape, Shape(["a", "b"], 2))


class Asked(Case):
    def test_any_value_in(self):
        for keys, days in ((["a"], 1), (["a", "b"], 2), (["c"], 3)):
            shape = Shape(keys, days)
            for value in any_values():
                self.assertIs(value in shape, is_place(value, shape))
                if not is_place(value, shape):
                    self.raises(BadPlace(value), shape.index_of, value)
                if not (is_int(value) and 0 <= value < len(shape)):
                    self.raises(BadCount(value), shape.__getitem__, value)

    def test_equal(self):
        shapes = [Shape(keys, days) for keys in (["a"], ["b", "a"], ["b", "c"]) for days in (1, 2)]
        for one, other in itertools.product(shapes, repeat=2):
            same = one.key_names == other.key_names and one.days == other.days
            self.assertIs(one == other, same)
            self.assertIs(one != other, not same)
        for value in any_values():
            if not isinstance(value, Shape):
                self.assertIs(Shape(["a"], 1) == value, False)

    def test_operators(self):
        lots = [keys for many in (1, 2, 3) for keys in itertools.combinations("abcd", many)]
        shapes = [Shape(keys, days) for keys in lots for days in (1, 3)]
        for one, other in itertools.product(shapes, repeat=2):
            both = one | other
            self.assertEqual(set(both.key_names), set(one.key_names) | set(other.key_names))
            self.assertEqual(both.days, max(one.days, other.days))
            held = set(one.places) <= set(other.places)
            self.assertIs(one <= other, held)
            self.assertIs(one < other, held and len(one) < len(other))

    def test_operator_errors(self):
        shape = Shape(["a", "b"], 8)
        for value in any_values():
            if not isinstance(value, Shape):
                for call in (shape.__or__, shape.__le__, shape.__lt__):
                    self.raises(BadShape("other"), call, value)
        self.raises(BadShape("keys"), shape.__or__, Shape(list("cdefg"), 1))
        self.raises(TooMany("places", 36), shape.__or__, Shape(list("cde"), 1))
        self.assertEqual(len(shape | Shape(["c", "d"], 1)), 32)


class Texts(Case):
    def test_read_back(self):
        for keys in (["a"], ["b", "a"], list("fedcba"), ["abcdefgh", "zz", "z"]):
            for days in range(1, 7):
                shape = Shape(keys, days)
                self.assertEqual(str(shape), " ".join([*sorted(keys), "days", str(days)]))
                self.assertEqual(Shape.read(str(shape)), shape)

    def test_words(self):
        lots = [lot for many in range(1, 7) for lot in itertools.combinations("abcdefg", many)]
        wholes = {(*lot, "days", str(days)) for lot in lots for days in range(1, 9)}
        texts = ["a days 1", "a b days 2", "c d g days 4", "a b c d e f days 6", "b c d e f g days 3"]
        vocabulary = ["a", "d", "g", "days", "keys", "1", "8", "9", "0", "-1", "01", "", "A", "\n", "6\n", "-"]
        many = check_reads(self, Shape.read, texts, vocabulary, wholes, refused=too_many)
        self.assertGreater(many, 300)

    def test_other_words(self):
        self.raises(BadText(0, 0), Shape.read, "")
        self.raises(BadText(0, 6), Shape.read, "a b c d e f g days 1")
        self.raises(BadText(0, 1), Shape.read, "a a days 2")
        self.raises(BadText(0, 1), Shape.read, "a  days 2")
        self.raises(BadText(0, 2), Shape.read, "a days " + "1" * 5000)
        self.raises(TooMany("places", 36), Shape.read, "a b c d e days 8")

    def test_wrong_values(self):
        for value in any_values():
            if not isinstance(value, str):
                self.raises(BadText(0, 0), Shape.read, value)


if __name__ == "__main__":
    unittest.main()
