"""Integers as they are written, and the words of a line."""

import random
import unittest

from rowvault.errors import BadText
from rowvault.words import is_whole_text, whole_of, whole_text, words_of
from tests.helpers import Case


class Integers(Case):
    def test_as_str_writes_them(self):
        chance = random.Random(23)
        numbers = [0, 1, -1, 10, -10, 10 ** 60, 10 ** 60 - 1, 10 ** 60 + 1, -10 ** 120, 3 * 10 ** 180 + 5]
        numbers += [chance.randint(-10 ** many, 10 ** many) for many in range(1, 400, 7)]
        for number in numbers:
            self.same(whole_text(number), str(number))
            self.same(whole_of(str(number)), number)
            self.assertIs(is_whole_text(str(number)), True)

    def test_of_any_size(self):
        text = "9" * 20000
        for sign in ("", "-"):
            self.assertEqual(whole_text(whole_of(sign + text)), sign + text)

    def test_other_texts(self):
        for word in ("", "-", "-0", "00", "01", "-01", "+1", " 1", "1 ", "1\n", "1_0", "1.0", "a", "--1", "²", "٣"):
            self.assertIs(is_whole_text(word), False, word)


class Lines(Case):
    def test_missing_and_wrong_words(self):
        words = words_of("a 5", 3)
        self.raises(BadText(3, 0), words.take_one, ["b"])
        letter, behind = words.take_one(["a", "b"])
        self.same(letter, "a")
        self.raises(BadText(3, 1), behind.take_from, 6, 9)
        self.raises(BadText(3, 1), behind.end)
        number, last = behind.take_from(5, 5)
        self.same([number, words.peek(), behind.peek(), last.peek()], [5, "a", "5", None])
        last.end()
        for call in (last.behind, last.take_whole, last.refuse):
            self.raises(BadText(3, 2), call)
        for value in (None, 5, ["a"], ("a", "5")):
            self.raises(BadText(0, 0), words_of, value, 3)


if __name__ == "__main__":
    unittest.main()
