"""What several tests need: any values, errors with their fields, and rows of fractions."""

import itertools
import math
import unittest
from fractions import Fraction

from rowvault import errors
from rowvault.books import Book
from rowvault.cuts import Every, Leads, Sizes
from rowvault.desk import Desk
from rowvault.images import Image
from rowvault.kinds import Blocks, Buckets, Cells, Pages, Stripes
from rowvault.layouts import Layout
from rowvault.orders import Order
from rowvault.parts import Part
from rowvault.plans import Given
from rowvault.polys import Poly
from rowvault.questions import Question
from rowvault.scripts import Script
from rowvault.shapes import Shape
from rowvault.sites import Sites
from rowvault.spans import Span, Weighed
from rowvault.tables import Table
from rowvault.told import Parted, Told
from rowvault.vaults import Vault

TWO = Shape(["a", "b"], 2)
OTHER = Shape(["a", "c"], 2)


def some_function(value):
    return value


def any_values():
    """Values of all kinds, each of which is wrong almost everywhere."""
    plain = [
        None, True, False, 0, 1, -1, 2, 36, 37, 10 ** 59, "", "a", "b", "days", "keys", "a 0", "-", "block 0", "x\ny",
        "a" * 9, (), (1,), ("a",), ("a", 0), ("a", True), ("a", 2), (0, "a"), ("a", "0"), ("a", 0, 1), ["a", 0],
        [], [1], ["a"], {}, {"a": 1}, {("a", 0): 1}, {("a", 0): True}, (("a", 0),), some_function, len, ([1], 2),
    ]
    own = [
        TWO, OTHER, Part(TWO), Part(OTHER, ("c", 1)), Table(TWO), Table(OTHER, {("c", 0): 2}),
        Question(TWO, {}), Question(OTHER, {("c", 0): 2}), Span(TWO), Span(OTHER), Weighed(1, ()),
        Every(1), Leads(), Sizes(1, 2), Blocks(Every(2)), Pages(1), Cells(2), Buckets(1), Stripes(2),
        Layout(TWO), Layout(OTHER, Pages(1)), Told(1, {}), Parted(Table(TWO), Table(TWO)), errors.NoDeed(),
        Book(OTHER), Image(Layout(OTHER), Table(OTHER)), Given(1), Poly.integer(OTHER, 1), Order("parity", "cell"),
        Script(OTHER, "undo"), Vault(Layout(OTHER)), Desk(), Sites(Layout(OTHER, Pages(3)), ["page 0"]),
    ]
    return plain + own


def alike(one, other):
    """Whether two values are equal, their kinds counting everywhere."""
    if type(one) is not type(other):
        return False
    if isinstance(one, (list, tuple)):
        return len(one) == len(other) and all(alike(a, b) for a, b in zip(one, other))
    if isinstance(one, dict):
        pairs = zip(one.items(), other.items())
        return len(one) == len(other) and all(alike(a, b) for a, b in pairs)
    return one is other or one == other


class Case(unittest.TestCase):
    """A test case that looks at errors closely."""

    def raises(self, error, call, *given, **named):
        """The call raises an error of just this class with just these fields."""
        try:
            result = call(*given, **named)
        except errors.VaultError as caught:
            told = f"{type(caught).__name__}{vars(caught)} for {given} {named}"
            self.assertIs(type(caught), type(error), told)
            self.assertTrue(alike(vars(caught), vars(error)), told)
        else:
            self.fail(f"{type(error).__name__}{vars(error)} expected for {given} {named}, got {result!r}")

    def raises_first(self, call, good, wrong):
        """Of each lot of wrong arguments, the error that is listed first is raised.

        good is a dict of right arguments by name; wrong a list of (name, value, error), as listed.
        """
        call(**good)
        for many in range(1, len(wrong) + 1):
            for lot in itertools.combinations(wrong, many):
                named = dict(good)
                for name, value, error in reversed(lot):
                    named[name] = value
                self.raises(lot[0][2], call, **named)

    def same(self, one, other):
        self.assertTrue(alike(one, other), f"{one!r} is not {other!r}")


def is_int(value):
    return type(value) is int


def is_place(value, shape):
    return type(value) is tuple and len(value) == 2 and type(value[0]) is str and is_int(value[1]) \
        and value[0] in shape.key_names and 0 <= value[1] < shape.days


def is_of(value, kind, shape):
    """Whether a value is of this class and of a shape equal to this one."""
    return isinstance(value, kind) and value.shape == shape


def weights_of(question):
    """The weights at all places, as a list."""
    return [question[place] for place in question.shape.places]


def reduced(rows):
    """The reduced rows over fractions, by Gauss and Jordan, and the leading columns."""
    rows = [[Fraction(number) for number in row] for row in rows]
    width = len(rows[0]) if rows else 0
    leads = []
    for column in range(width):
        at = next((k for k in range(len(leads), len(rows)) if rows[k][column] != 0), None)
        if at is None:
            continue
        here = len(leads)
        rows[here], rows[at] = rows[at], rows[here]
        rows[here] = [number / rows[here][column] for number in rows[here]]
        for k, row in enumerate(rows):
            if k != here and row[column] != 0:
                rows[k] = [a - row[column] * b for a, b in zip(row, rows[here])]
        leads.append(column)
    return rows[:len(leads)], leads


def rank(rows):
    return len(reduced(rows)[1])


def whole_numbers(row):
    """The least multiple of a row of fractions, from above 0 times, that is whole and has no common divisor."""
    bottom = math.lcm(*[number.denominator for number in row]) if row else 1
    numbers = [int(number * bottom) for number in row]
    common = math.gcd(*numbers)
    return [number // common for number in numbers] if common else numbers
