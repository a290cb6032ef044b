"""Units: which texts are units, their order, and texts of several."""

import itertools
import random
import re
import unittest

from rowvault.errors import BadCount, BadText, BadUnit
from rowvault.units import in_order, is_unit, read_units, unit_of, unit_parts, units_text
from tests.helpers import Case, any_values, is_int
from tests.reading import changed

FORM = re.compile(r"journal|(block|page|bucket) N|cell L N|parity N N".replace("N", "(0|[1-9][0-9]?)")
                  .replace("L", "[1-9][0-9]?"))
WORDS = ["journal", "block", "page", "cell", "bucket", "parity"]
MANY = [0, 1, 1, 2, 1, 2]
UNITS = ["journal", "block 0", "block 2", "block 10", "block 99", "page 0", "page 7", "cell 1 0", "cell 1 99", "cell 2 3",
         "cell 10 0", "cell 99 99", "bucket 0", "bucket 99", "parity 0 0", "parity 0 10", "parity 1 9", "parity 99 99"]
WRONG = ["", "block", "block 0 0", "block 100", "block -1", "block 01", "block +1", "block  1", " block 1", "block 1 ",
         "block 1\n", "cell 0 0", "cell 1", "cell 1 100", "cell 100 1", "cell 1 1 1", "parity 0", "parity 100 0",
         "journal 0", "journal ", "Block 0", "blocks 0", "stripe 0", "none", "page a", "page 1.0", "page 1_0",
         "bucket " + "9" * 5000]


def place_of(unit):
    """What units are in order by."""
    word, *numbers = unit.split(" ")
    return WORDS.index(word), [int(number) for number in numbers]


class Units(Case):
    def test_is_unit(self):
        for unit in UNITS:
            self.assertIs(is_unit(unit), True, unit)
        for unit in WRONG:
            self.assertIs(is_unit(unit), False, unit)
        for value in any_values():
            self.assertIs(is_unit(value), value == "block 0" if isinstance(value, str) else False)
        for word in WORDS:
            for numbers in itertools.product(("0", "1", "99", "100", "00"), repeat=2):
                for many in range(3):
                    text = " ".join([word, *numbers[:many]])
                    self.assertIs(is_unit(text), FORM.fullmatch(text) is not None, text)

    def test_unit_of_and_parts(self):
        for unit in UNITS:
            word, *numbers = unit.split(" ")
            numbers = tuple(int(number) for number in numbers)
            self.same(unit_of(word, *numbers), unit)
            self.same(unit_parts(unit), (word, numbers))
        self.same(unit_parts(unit="cell 2 0"), ("cell", (2, 0)))

    def test_unit_of_errors(self):
        for value in any_values():
            self.raises(BadUnit(value), unit_of, value, -1)
            if not (is_int(value) and 0 <= value <= 99):
                for word in WORDS:
                    self.raises(BadUnit(value), unit_of, word, value)
                    self.raises(BadUnit(value), unit_of, word, 1, value, "x")
                    self.raises(BadUnit(value), unit_of, word, 1, 2, 3, value)
        self.raises(BadUnit(100), unit_of, "block", 100)
        self.raises(BadUnit(0), unit_of, "cell", 0)
        self.raises(BadUnit(0), unit_of, "cell", 0, 0, 0)
        self.raises(BadUnit(-1), unit_of, "cell", 1, -1)
        for word, many in zip(WORDS, MANY):
            for other in range(5):
                if other != many:
                    self.raises(BadCount(other), unit_of, word, *[1] * other)

    def test_unit_parts_errors(self):
        for value in [*any_values(), *WRONG]:
            if value != "block 0" or not isinstance(value, str):
                self.raises(BadUnit(value), unit_parts, value)


class Lots(Case):
    def test_in_order(self):
        chance = random.Random(12)
        for _ in range(100):
            units = [chance.choice(UNITS) for _ in range(chance.randint(0, 9))]
            wanted = tuple(sorted(set(units), key=place_of))
            for given in (units, tuple(units)):
                self.same(in_order(given), wanted)
                self.same(units_text(given), " , ".join(wanted) or "-")
                self.same(read_units(units_text(given)), wanted)
        self.same(in_order(units=UNITS[::-1]), tuple(UNITS))
        self.same(in_order([]), ())

    def test_errors(self):
        for value in any_values():
            for call in (in_order, units_text):
                if not isinstance(value, (list, tuple)):
                    self.raises(BadUnit(None), call, value)
                if value != "block 0" or not isinstance(value, str):
                    self.raises(BadUnit(value), call, ["page 0", value, "x"])
                    self.raises(BadUnit(value), call, ("page 0", value, "x"))


def first_wrong(words):
    """The index of the first word that cannot stand, or how many there are; None for a right text."""
    if words[0] == "-":
        return None if len(words) == 1 else 1
    ahead = None
    at = 0
    while True:
        if at == len(words) or words[at] not in WORDS:
            return at
        many = MANY[WORDS.index(words[at])]
        unit = words[at:at + many + 1]
        for k in range(1, len(unit)):
            low = 1 if words[at] == "cell" and k == 1 else 0
            if not re.fullmatch("0|[1-9][0-9]?", unit[k]) or int(unit[k]) < low:
                return at + k
        if len(unit) <= many:
            return len(words)
        if ahead is not None and place_of(" ".join(unit)) <= place_of(ahead):
            return at + many
        ahead = " ".join(unit)
        at += many + 1
        if at == len(words):
            return None
        if words[at] != ",":
            return at
        at += 1


class Texts(Case):
    def test_words(self):
        texts = ["-", *UNITS, " , ".join(UNITS)]
        texts += [" , ".join(lot) for lot in itertools.combinations(UNITS[::3], 3)]
        vocabulary = [*WORDS, "0", "1", "99", "100", "01", "-1", "-", ",", "", "\n", "blocks", "block 3", "0\n"]
        seen = {}
        for text in texts:
            for words in [text.split(" "), *changed(text.split(" "), vocabulary)]:
                seen[" ".join(words)] = True
        for text in seen:
            wrong = first_wrong(text.split(" "))
            if wrong is None:
                self.assertEqual(units_text(read_units(text)), text)
            else:
                self.raises(BadText(0, wrong), read_units, text)
        self.assertGreater(len(seen), 2000)

    def test_wrong_values(self):
        for value in any_values():
            if not isinstance(value, str):
                self.raises(BadText(0, 0), read_units, value)
        self.raises(BadText(0, 4), read_units, "page 0 , block 1")
        self.raises(BadText(0, 3), read_units, "block 0 , journal")
        self.raises(BadText(0, 2), read_units, "journal , journal")
        self.raises(BadText(0, 3), read_units, "block 0 ,")


if __name__ == "__main__":
    unittest.main()
