"""Tables: amounts, operators, texts, and each error."""

import itertools
import random
import unittest

from rowvault.errors import BadAmount, BadCount, BadPart, BadPlace, BadTable, BadText
from rowvault.parts import Part
from rowvault.shapes import Shape
from rowvault.tables import Table
from tests.helpers import OTHER, TWO, Case, any_values, is_int, is_of, is_place, some_function
from tests.reading import check_reads, numbers_at

NUMBERS = [0, 1, -1, 7, 10 ** 30, -10 ** 59]


def some_tables(shape, many=25):
    chance = random.Random(1)
    return [Table(shape, {place: chance.choice(NUMBERS) for place in shape}) for _ in range(many)]


class Made(Case):
    def test_amounts(self):
        chance = random.Random(2)
        for _ in range(60):
            shape = chance.choice([TWO, Shape(["z"], 1), Shape(list("abcdef"), 6)])
            places = chance.sample(shape.places, chance.randint(0, len(shape)))
            amounts = {place: chance.choice(NUMBERS) for place in places}
            kept = dict(amounts)
            table = Table(shape, amounts)
            self.same(amounts, kept)
            wanted = {place: amounts[place] for place in shape if amounts.get(place, 0) != 0}
            self.same(table.amounts, wanted)
            self.same(list(table), list(wanted))
            self.assertEqual((table.shape, len(table)), (shape, len(wanted)))
            self.assertIs(bool(table), len(wanted) > 0)
            for place in shape:
                self.same(table[place], amounts.get(place, 0))
            amounts.clear()
            self.same(table.amounts, wanted)

    def test_none(self):
        self.same(Table(TWO).amounts, {})
        self.same(Table(shape=TWO, amounts=None).amounts, {})
        self.assertEqual(Table(TWO), Table(TWO, {("a", 0): 0}))

    def test_wrong_values(self):
        for value in any_values():
            if not isinstance(value, Shape):
                self.raises(BadTable("shape"), Table, value, 7)
                self.raises(BadTable("shape"), Table.of, value, 7)
                self.raises(BadTable("shape"), Table.read, 7, value)
            if value is not None and not isinstance(value, dict):
                self.raises(BadTable("amounts"), Table, TWO, value)
            if not is_int(value):
                self.raises(BadAmount(value), Table, TWO, {("a", 0): 1, ("b", 1): value, ("b", 0): "x"})
        for key in (None, True, 0, "a", ("a",), ("a", True), ("a", 2), ("c", 0), (("a", 0), 1), some_function):
            self.raises(BadPlace(key), Table, TWO, {("b", 1): "x", key: "y", "z": 0})

    def test_one_place_by_two_keys(self):
        # (a, True) equals (a, 1), but it is no place.
        self.raises(BadPlace(("a", True)), Table, TWO, {("a", True): 5})


class Of(Case):
    def test_sums(self):
        chance = random.Random(3)
        for _ in range(60):
            rows = [(*chance.choice(TWO.places), chance.choice(NUMBERS)) for _ in range(chance.randint(0, 6))]
            table = Table.of(TWO, *rows)
            for key, day in TWO:
                self.same(table[key, day], sum(row[2] for row in rows if row[:2] == (key, day)))
        self.assertEqual(Table.of(TWO, ("a", 0, 5), ("a", 0, -5)), Table(TWO))

    def test_errors(self):
        for value in any_values():
            if not (isinstance(value, tuple) and len(value) == 3):
                self.raises(BadTable(2), Table.of, TWO, ("a", 0, 1), ("x", 0, 1), value, 7)
            if not isinstance(value, str) or value not in ("a", "b"):
                self.raises(BadPlace((value, 0)), Table.of, TWO, ("a", 0, 1), (value, 0, "x"), ("a", 9, 1))
            if not (is_int(value) and 0 <= value <= 1):
                self.raises(BadPlace(("b", value)), Table.of, TWO, ("b", value, 1), ("a", 0, "x"))
            if not is_int(value):
                self.raises(BadAmount(value), Table.of, TWO, ("b", 0, value), ("c", 0, 1))


class Operators(Case):
    def test_sums(self):
        tables = some_tables(TWO)
        for one, other in itertools.product(tables[:12], repeat=2):
            for made, wanted in ((one + other, lambda a, b: a + b), (one - other, lambda a, b: a - b)):
                self.same([made[place] for place in TWO], [wanted(one[place], other[place]) for place in TWO])
            self.assertIs(one == other, all(one[place] == other[place] for place in TWO))
        for table in tables:
            self.same([(-table)[place] for place in TWO], [-table[place] for place in TWO])
            for number in NUMBERS:
                wanted = [table[place] * number for place in TWO]
                self.same([(table * number)[place] for place in TWO], wanted)
                self.same([(number * table)[place] for place in TWO], wanted)

    def test_part(self):
        table = Table(TWO, {("a", 0): 5, ("b", 1): -3, ("a", 1): 2})
        for many in range(5):
            for lot in itertools.combinations(TWO.places, many):
                made = table & Part(TWO, *lot)
                self.same([made[place] for place in TWO], [table[place] if place in lot else 0 for place in TWO])

    def test_with_amount(self):
        for table in some_tables(TWO, 8):
            for place in TWO:
                for number in NUMBERS:
                    made = table.with_amount(place, number)
                    self.same([made[one] for one in TWO], [number if one == place else table[one] for one in TWO])
        self.assertEqual(Table(TWO).with_amount(amount=3, place=("a", 0)), Table(TWO, {("a", 0): 3}))

    def test_errors(self):
        table = Table(TWO, {("a", 0): 5})
        for value in any_values():
            if not is_of(value, Table, TWO):
                self.raises(BadTable("other"), table.__add__, value)
                self.raises(BadTable("other"), table.__sub__, value)
                self.assertIs(table == value, False)
            if not is_int(value):
                self.raises(BadCount(value), lambda: table * value)
                self.raises(BadAmount(value), table.with_amount, ("b", 1), value)
                if not hasattr(value, "__mul__") or isinstance(value, (str, list, tuple, bool)):
                    self.raises(BadCount(value), lambda: value * table)
            if not is_of(value, Part, TWO):
                self.raises(BadPart("other"), table.__and__, value)
            if not is_place(value, TWO):
                self.raises(BadPlace(value), table.__getitem__, value)
                self.raises(BadPlace(value), table.with_amount, value, "x")
        self.assertNotEqual(Table(TWO), Table(OTHER))
        self.assertEqual(table, Table(TWO, {("a", 0): 5}))


class Texts(Case):
    def test_read_back(self):
        for shape in (TWO, Shape(["x"], 3), Shape(list("abcdef"), 6)):
            for table in [Table(shape), *some_tables(shape)]:
                wanted = " , ".join(f"{key} {day} {table[key, day]}" for key, day in table) or "-"
                self.assertEqual(str(table), wanted)
                self.assertEqual(Table.read(str(table), shape), table)

    def test_great_amounts(self):
        for number in (10 ** 60, 10 ** 60 - 1, -10 ** 60, 10 ** 6000 + 7, -7 * 10 ** 5999):
            table = Table(TWO, {("a", 1): number})
            self.assertEqual(Table.read(str(table), TWO), table)
        self.assertEqual(str(Table(TWO, {("a", 1): -10 ** 5000})), "a 1 -1" + "0" * 5000)
        self.assertEqual(Table.read("a 1 -12" + "0" * 5000, TWO)["a", 1], -12 * 10 ** 5000)

    def test_words(self):
        for shape in (TWO, Shape(["x"], 3)):
            lots = [lot for many in range(len(shape) + 1) for lot in itertools.combinations(shape.places, many)]
            texts = [str(Table(shape, dict.fromkeys(lot, 12 - len(lot) * 7))) for lot in lots]
            norm = numbers_at(2)
            more = {(*norm(text.split(" ")), ",") for text in texts if text != "-"}
            vocabulary = ["a", "b", "x", "0", "1", "2", "-5", "+5", "05", "-0", "-", ",", "", "\n", "5\n", "a 0"]
            many = check_reads(self, lambda text: Table.read(text, shape), texts, vocabulary, more=more, norm=norm)
            self.assertGreater(many, 400)

    def test_wrong_values(self):
        for value in any_values():
            if not isinstance(value, str):
                self.raises(BadText(0, 0), Table.read, value, TWO)
        self.raises(BadText(0, 2), Table.read, "a 0", TWO)
        self.raises(BadText(0, 2), Table.read, "a 0 -0", TWO)


if __name__ == "__main__":
    unittest.main()
