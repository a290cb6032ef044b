"""Questions: weights, answers, operators, texts, and each error."""

import itertools
import math
import random
import unittest

from rowvault.errors import BadAmount, BadPart, BadPlace, BadQuestion, BadTable, BadText
from rowvault.parts import Part
from rowvault.questions import Question
from rowvault.shapes import Shape
from rowvault.tables import Table
from tests.helpers import OTHER, TWO, Case, any_values, is_int, is_of, is_place, some_function
from tests.reading import check_reads, numbers_at

NUMBERS = [0, 1, -1, 6, -10 ** 20, 10 ** 59]
WIDE = Shape(list("abcdef"), 6)


def some_questions(shape, many=25):
    chance = random.Random(4)
    return [Question(shape, {place: chance.choice(NUMBERS) for place in shape}) for _ in range(many)]


class Made(Case):
    def test_weights(self):
        chance = random.Random(5)
        for _ in range(60):
            shape = chance.choice([TWO, Shape(["z"], 1), WIDE])
            places = chance.sample(shape.places, chance.randint(0, len(shape)))
            weights = {place: chance.choice(NUMBERS) for place in places}
            kept = dict(weights)
            question = Question(shape, weights)
            self.same(weights, kept)
            wanted = {place: weights[place] for place in shape if weights.get(place, 0) != 0}
            self.same(question.weights, wanted)
            self.assertEqual((question.shape, question.part), (shape, Part(shape, *wanted)))
            self.assertIs(bool(question), len(wanted) > 0)
            for place in shape:
                self.same(question[place], weights.get(place, 0))
            weights.clear()
            self.same(question.weights, wanted)

    def test_wrong_values(self):
        for value in any_values():
            if not isinstance(value, Shape):
                self.raises(BadQuestion("shape"), Question, value, 7)
                self.raises(BadQuestion("shape"), Question.none, value)
                self.raises(BadQuestion("shape"), Question.read, 7, value)
            if not isinstance(value, dict):
                self.raises(BadQuestion("weights"), Question, TWO, value)
            if not isinstance(value, Part):
                self.raises(BadQuestion("part"), Question.of, value)
            if not is_int(value):
                self.raises(BadAmount(value), Question, TWO, {("a", 0): 1, ("b", 1): value, ("b", 0): "x"})
        for key in (None, True, 0, "a", ("a",), ("a", True), ("a", 2), ("c", 0), (("a", 0), 1), some_function):
            self.raises(BadPlace(key), Question, TWO, {("b", 1): "x", key: "y", "z": 0})

    def test_static_methods(self):
        for many in range(5):
            for lot in itertools.combinations(TWO.places, many):
                made = Question.of(Part(TWO, *lot))
                self.same(made.weights, {place: 1 for place in lot})
        self.same(Question.none(WIDE).weights, {})
        self.assertEqual(Question.none(shape=WIDE).shape, WIDE)
        self.assertEqual(Question.of(part=Part(OTHER)).shape, OTHER)

    def test_no_iteration(self):
        with self.assertRaises(TypeError):
            iter(Question(TWO, {}))
        with self.assertRaises(TypeError):
            list(Question(TWO, {("a", 0): 1}))


class Answers(Case):
    def test_answers(self):
        chance = random.Random(6)
        for question in some_questions(WIDE):
            table = Table(WIDE, {place: chance.choice(NUMBERS) for place in WIDE})
            self.same(question(table), sum(question[place] * table[place] for place in WIDE))
            self.same(question(table=table), question(table))
            self.same(question(Table(WIDE)), 0)

    def test_wrong_tables(self):
        for value in any_values():
            if not is_of(value, Table, TWO):
                self.raises(BadTable("table"), Question(TWO, {}), value)


class Operators(Case):
    def test_sums(self):
        questions = some_questions(TWO)
        for one, other in itertools.product(questions[:12], repeat=2):
            for made, wanted in ((one + other, lambda a, b: a + b), (one - other, lambda a, b: a - b)):
                self.same([made[place] for place in TWO], [wanted(one[place], other[place]) for place in TWO])
            self.same((one ^ other).places, tuple(place for place in TWO if one[place] != other[place]))
            self.assertIs(one == other, all(one[place] == other[place] for place in TWO))
        for one in questions:
            self.same([(-one)[place] for place in TWO], [-one[place] for place in TWO])
            for number in NUMBERS:
                wanted = [one[place] * number for place in TWO]
                self.same([(one * number)[place] for place in TWO], wanted)
                self.same([(number * one)[place] for place in TWO], wanted)

    def test_part(self):
        question = Question(TWO, {("a", 0): 5, ("b", 1): -3, ("a", 1): 2})
        for many in range(5):
            for lot in itertools.combinations(TWO.places, many):
                made = question & Part(TWO, *lot)
                self.same([made[place] for place in TWO], [question[place] if place in lot else 0 for place in TWO])

    def test_lowest(self):
        chance = random.Random(7)
        for _ in range(80):
            numbers = [chance.choice([0, 0, 2, -4, 6, 9, -15, 10 ** 40]) * chance.choice([1, 2, 6]) for _ in TWO]
            question = Question(TWO, dict(zip(TWO, numbers)))
            low = [question.lowest()[place] for place in TWO]
            if not any(numbers):
                self.same(low, [0] * 4)
                continue
            self.assertEqual(math.gcd(*low), 1)
            self.assertGreater(next(number for number in low if number), 0)
            factor = next(a // b for a, b in zip(numbers, low) if b)
            self.same(numbers, [number * factor for number in low])

    def test_errors(self):
        question = Question(TWO, {("a", 0): 5})
        for value in any_values():
            if not is_of(value, Question, TWO):
                for call in (question.__add__, question.__sub__, question.__xor__):
                    self.raises(BadQuestion("other"), call, value)
                self.assertIs(question == value, False)
            if not is_int(value):
                self.raises(BadAmount(value), lambda: question * value)
                if not hasattr(value, "__mul__") or isinstance(value, (str, list, tuple, bool)):
                    self.raises(BadAmount(value), lambda: value * question)
            if not is_of(value, Part, TWO):
                self.raises(BadPart("other"), question.__and__, value)
            if not is_place(value, TWO):
                self.raises(BadPlace(value), question.__getitem__, value)
        self.assertNotEqual(Question(TWO, {}), Question(OTHER, {}))


class Texts(Case):
    def test_read_back(self):
        for shape in (TWO, Shape(["x"], 3), WIDE):
            for question in [Question(shape, {}), *some_questions(shape)]:
                text = " , ".join(f"{weight} {key} {day}" for (key, day), weight in question.weights.items()) or "-"
                self.assertEqual(str(question), text)
                self.assertEqual(Question.read(str(question), shape), question)
        great = Question(TWO, {("b", 0): -3 * 10 ** 5000})
        self.assertEqual(Question.read(str(great), TWO), great)

    def test_words(self):
        for shape in (TWO, Shape(["x"], 3)):
            lots = [lot for many in range(len(shape) + 1) for lot in itertools.combinations(shape.places, many)]
            texts = [str(Question(shape, dict.fromkeys(lot, 12 - len(lot) * 7))) for lot in lots]
            norm = numbers_at(0)
            # A comma can stand behind each place, and a weight behind each comma: only the place cannot follow.
            ahead = [norm(text.split(" ")) for text in texts if text != "-"]
            more = {(*words, ",") for words in ahead} | {(*words, ",", "N") for words in ahead}
            vocabulary = ["a", "b", "x", "0", "1", "2", "-5", "+5", "05", "-0", "-", ",", "", "\n", "5\n", "a 0"]
            many = check_reads(self, lambda text: Question.read(text, shape), texts, vocabulary, more=more, norm=norm)
            self.assertGreater(many, 400)

    def test_wrong_values(self):
        for value in any_values():
            if not isinstance(value, str):
                self.raises(BadText(0, 0), Question.read, value, TWO)
        self.raises(BadText(0, 1), Question.read, "2", TWO)
        self.raises(BadText(0, 5), Question.read, "2 b 1 , 3 b 1", TWO)
        self.raises(BadText(0, 6), Question.read, "2 b 0 , 3 b 0", TWO)


if __name__ == "__main__":
    unittest.main()
