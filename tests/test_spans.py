"""Spans, reckoned here over fractions, by ranks."""

import itertools
import math
import random
import unittest
from fractions import Fraction

from rowvault.errors import BadSpan
from rowvault.parts import Part
from rowvault.questions import Question
from rowvault.shapes import Shape
from rowvault.spans import Span, Weighed
from rowvault.tables import Table
from tests.helpers import OTHER, TWO, Case, any_values, is_of, rank, reduced, weights_of, whole_numbers

SHAPES = [Shape(["a"], 1), TWO, Shape(["a", "b", "c"], 2), Shape(list("abc"), 3)]


def question(shape, numbers):
    return Question(shape, dict(zip(shape.places, numbers)))


def some_spans(seed, many):
    """Spans of questions with small weights, many of them sums of others, some with great weights."""
    chance = random.Random(seed)
    for _ in range(many):
        shape = chance.choice(SHAPES)
        rows = []
        for _ in range(chance.randint(0, len(shape) + 2)):
            if rows and chance.random() < 0.4:
                one, other = chance.choice(rows), chance.choice(rows)
                factors = chance.randint(-3, 3), chance.randint(-3, 3)
                rows.append([factors[0] * a + factors[1] * b for a, b in zip(one, other)])
            else:
                pool = chance.choice([[0, 0, 1], [0, 1, -1, 2], [-6, 4, 0, 0, 9], [0, 10 ** 40, -3]])
                rows.append([chance.choice(pool) for _ in shape])
        yield shape, rows, Span(shape, *[question(shape, row) for row in rows])


def some_question(chance, shape, rows):
    """A question, most often one in the span."""
    if rows and chance.random() < 0.6:
        factors = [chance.randint(-4, 4) for _ in rows]
        total = [sum(f * row[k] for f, row in zip(factors, rows)) for k in range(len(shape))]
        part = math.gcd(*total) or 1
        return question(shape, [number // part for number in total])
    return question(shape, [chance.randint(-2, 2) for _ in shape])


def directions_by_fractions(rows, width):
    """For each column without a lead the least whole row that is above 0 there and 0 at the other such columns."""
    found, leads = reduced(rows)
    result = []
    for free in range(width):
        if free not in leads:
            numbers = [Fraction(0)] * width
            numbers[free] = Fraction(1)
            for lead, row in zip(leads, found):
                numbers[lead] = -row[free]
            bottom = math.lcm(*[number.denominator for number in numbers])
            result.append([int(number * bottom) for number in numbers])
    return result


class Rows(Case):
    def test_rows(self):
        for shape, rows, span in some_spans(1, 150):
            found, _ = reduced(rows)
            wanted = [whole_numbers(row) for row in found]
            self.same([weights_of(row) for row in span.rows], wanted)
            self.assertIsInstance(span.rows, tuple)
            self.assertEqual((len(span), list(span), span.shape), (len(wanted), list(span.rows), shape))
            self.assertIs(bool(span), len(wanted) > 0)
            self.same([weights_of(one) for one in span.given], rows)
            self.assertIsInstance(span.given, tuple)

    def test_equal_spans_have_equal_rows(self):
        chance = random.Random(8)
        for shape, rows, span in some_spans(2, 60):
            mixed = [[2 * number for number in row] for row in rows]
            chance.shuffle(mixed)
            mixed += [[a - b for a, b in zip(rows[0], row)] for row in rows]
            other = Span(shape, *[question(shape, row) for row in mixed])
            self.assertEqual(span, other)
            self.assertEqual(span.rows, other.rows)
            more = span + Span(shape, question(shape, [5 ** k for k in range(len(shape))]))
            self.assertEqual(span == more, rank(rows) == rank(rows + [[5 ** k for k in range(len(shape))]]))

    def test_wide(self):
        wide = Shape(list("abcdef"), 6)
        chance = random.Random(9)
        rows = [[chance.choice([0, 0, 0, 1, -1, 3]) for _ in wide] for _ in range(40)]
        span = Span(wide, *[question(wide, row) for row in rows[:20]])
        self.same([weights_of(row) for row in span], [whole_numbers(row) for row in reduced(rows[:20])[0]])
        whole = Span(wide, *[question(wide, row) for row in rows])
        self.assertEqual(len(whole), rank(rows))
        self.assertEqual(span <= whole, True)

    def test_errors(self):
        good = Question(TWO, {("a", 0): 1})
        for value in any_values():
            if not isinstance(value, Shape):
                self.raises(BadSpan("shape"), Span, value, value)
            if not is_of(value, Question, TWO):
                self.raises(BadSpan(1), Span, TWO, good, value, "x")
                self.raises(BadSpan(0), Span, TWO, value)


class Weighing(Case):
    def test_weigh(self):
        chance = random.Random(10)
        for shape, rows, span in some_spans(3, 150):
            for _ in range(4):
                asked = some_question(chance, shape, rows)
                held = rank(rows + [weights_of(asked)]) == rank(rows)
                self.assertIs(asked in span, held)
                paper = span.weigh(question=asked)
                if not held:
                    self.assertIsNone(paper)
                    continue
                self.assertIs(type(paper), Weighed)
                self.check(rows, weights_of(asked), paper)

    def check(self, rows, asked, paper):
        self.assertTrue(all(type(number) is int for number in (paper.bottom, *paper.weights)))
        self.assertIsInstance(paper.weights, tuple)
        self.assertEqual(len(paper.weights), len(rows))
        self.assertGreaterEqual(paper.bottom, 1)
        self.assertEqual(math.gcd(paper.bottom, *paper.weights), 1)
        total = [sum(weight * row[k] for weight, row in zip(paper.weights, rows)) for k in range(len(asked))]
        self.same(total, [paper.bottom * number for number in asked])
        for at, weight in enumerate(paper.weights):
            if rank(rows[:at + 1]) == rank(rows[:at]):
                self.assertEqual(weight, 0)

    def test_no_questions(self):
        span = Span(TWO)
        self.same((len(span), span.rows, span.given), (0, (), ()))
        self.assertEqual(span.weigh(Question(TWO, {})), Weighed(1, ()))
        self.assertIsNone(span.weigh(Question(TWO, {("a", 0): 1})))

    def test_errors(self):
        for span in (Span(TWO), Span(TWO, Question(TWO, {("a", 0): 1}))):
            for value in any_values():
                if not is_of(value, Question, TWO):
                    self.raises(BadSpan("question"), span.weigh, value)
                    self.raises(BadSpan("question"), span.direction_for, value)
                    self.assertIs(value in span, False)

    def test_paper(self):
        for value in any_values():
            paper = Weighed(value, [value])
            self.assertIs(paper.bottom, value)
            self.same(paper.weights, [value])
            self.assertIs(bool(paper), True)
            self.assertEqual(paper, Weighed(weights=[value], bottom=value))
            self.assertEqual(paper == value, False)
        self.assertEqual(Weighed(True, (1, 2)), Weighed(1, (True, 2)))
        self.assertNotEqual(Weighed(1, (1,)), Weighed(1, [1]))
        self.assertNotEqual(Weighed(1, (1,)), Weighed(2, (1,)))


class Directions(Case):
    def test_directions(self):
        chance = random.Random(11)
        for shape, rows, span in some_spans(4, 150):
            made = list(span.directions())
            self.assertTrue(all(is_of(table, Table, shape) for table in made))
            wanted = directions_by_fractions(rows, len(shape))
            self.same([[table[place] for place in shape] for table in made], wanted)
            told = [place for k, place in enumerate(shape.places)
                    if rank(rows + [[int(j == k) for j in range(len(shape))]]) == rank(rows)]
            self.assertEqual(span.told_part(), Part(shape, *told))
            for _ in range(4):
                asked = some_question(chance, shape, rows)
                first = next((table for table in made if asked(table) != 0), None)
                self.assertEqual(span.direction_for(asked), first)
                self.assertEqual(first is None, asked in span)

    def test_generator(self):
        steps = Span(TWO).directions()
        self.assertEqual(next(steps), Table(TWO, {("a", 0): 1}))
        self.assertEqual(len(list(steps)), 3)


class Operators(Case):
    def test_sums_and_what_both_have(self):
        spans = [one for one in some_spans(5, 90)]
        for shape in SHAPES:
            own = [(rows, span) for other, rows, span in spans if other == shape][:9]
            for (rows, one), (more, other) in itertools.product(own, repeat=2):
                both = one + other
                self.same([weights_of(each) for each in both.given], rows + more)
                self.assertEqual(len(both), rank(rows + more))
                shared = one & other
                self.assertEqual(len(shared), rank(rows) + rank(more) - rank(rows + more))
                self.assertEqual(shared.given, shared.rows)
                for row in shared:
                    self.assertEqual(rank(rows + [weights_of(row)]), rank(rows))
                    self.assertEqual(rank(more + [weights_of(row)]), rank(more))
                held = rank(rows + more) == rank(more)
                self.assertIs(one <= other, held)
                self.assertIs(one < other, held and rank(rows) < rank(more))
                self.assertIs(one == other, held and rank(rows) == rank(more))

    def test_errors(self):
        span = Span(TWO, Question(TWO, {("a", 0): 1}))
        for value in any_values():
            if not is_of(value, Span, TWO):
                for call in (span.__add__, span.__and__, span.__le__, span.__lt__):
                    self.raises(BadSpan("other"), call, value)
                self.assertIs(span == value, False)
        self.assertNotEqual(Span(TWO), Span(OTHER))
        with self.assertRaises(AttributeError):
            span.rows = ()


if __name__ == "__main__":
    unittest.main()
