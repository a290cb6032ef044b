"""Polys: sums of products of at most two amounts, each times an integer."""

from rowvault.asked import bare_part, check_layout
from rowvault.checks import is_whole
from rowvault.errors import BadPoly, BadRule, BadTable, TooMany
from rowvault.layouts import told_units
from rowvault.questions import Question
from rowvault.shapes import Shape
from rowvault.spans import table_of, vector_but
from rowvault.squares import Squares
from rowvault.tables import Table, is_table_of
from rowvault.terms import (
    MOST_DEGREE, added, are_terms, in_order, is_product, multiplied, take_terms, term_text, worth_of,
)
from rowvault.told import Parted
from rowvault.words import words_of

# The most open places that may stand in products of a poly that is worked out.
MOST_PLACES = 12


class Poly:
    """Products of a shape's amounts and their integers; terms has those that are not 0, in order."""

    def __init__(self, shape, terms):
        if not isinstance(shape, Shape):
            raise BadPoly("shape")
        if not are_terms(shape, terms):
            raise BadPoly("terms")
        self.shape = shape
        self.terms = in_order(shape, terms)
        self.degree = max([len(product) for product in self.terms], default=0)

    @staticmethod
    def of(question):
        """The poly that is the answer to a question."""
        if not isinstance(question, Question):
            raise BadPoly("question")
        return Poly(question.shape, {(place,): question.weights[place] for place in question.weights})

    @staticmethod
    def integer(shape, value):
        """The poly that is an integer."""
        if not isinstance(shape, Shape):
            raise BadPoly("shape")
        if not is_whole(value):
            raise BadPoly("value")
        return Poly(shape, {(): value})

    def __call__(self, table):
        if not is_table_of(table, self.shape):
            raise BadTable("table")
        return sum([number * worth_of(product, table) for product, number in self.terms.items()])

    def __len__(self):
        return len(self.terms)

    def __iter__(self):
        return iter(self.terms)

    def __bool__(self):
        return bool(self.terms)

    def __getitem__(self, at):
        if not is_product(self.shape, at):
            raise BadPoly("product")
        return self.terms.get(at, 0)

    def __add__(self, other):
        return Poly(self.shape, added(self.terms, terms_for(self.shape, other), 1))

    def __sub__(self, other):
        return Poly(self.shape, added(self.terms, terms_for(self.shape, other), -1))

    def __radd__(self, other):
        return Poly(self.shape, added(terms_for(self.shape, other), self.terms, 1))

    def __rsub__(self, other):
        return Poly(self.shape, added(terms_for(self.shape, other), self.terms, -1))

    def __neg__(self):
        return Poly(self.shape, {product: -number for product, number in self.terms.items()})

    def __mul__(self, other):
        return product_of(self, other)

    def __rmul__(self, other):
        return product_of(self, other)

    def __eq__(self, other):
        return isinstance(other, Poly) and self.shape == other.shape and self.terms == other.terms

    def __str__(self):
        if self.terms == {}:
            return "-"
        return " , ".join([term_text(product, number) for product, number in self.terms.items()])

    @classmethod
    def read(cls, text, shape):
        """The poly with this text."""
        if not isinstance(shape, Shape):
            raise BadPoly("shape")
        terms, words = take_terms(words_of(text), shape)
        words.end()
        return cls(shape, terms)


class ToldPoly:
    """A paper: bottom times a poly is the sum of products of at most two answers, each times its integer."""

    def __init__(self, bottom, terms):
        self.bottom = bottom
        self.terms = terms

    def __eq__(self, other):
        return isinstance(other, ToldPoly) and self.bottom == other.bottom and self.terms == other.terms


def told_poly(layout, units, poly, bare=None):
    """A ToldPoly of the poly by the units, or a Parted."""
    some, none = asked_poly(layout, units, poly, bare)
    terms = open_terms(poly, none)
    check_places(terms)
    indexes = layout.shape.indexes
    total = {tuple([indexes[place] for place in product]): number for product, number in terms.items()}
    pairs = list(layout.answers(some))
    squares = Squares([vector_but(answer, none) for key, answer in pairs], len(layout.shape), total)
    direction = squares.direction()
    if direction is not None:
        return parted_along(poly, table_of(layout.shape, direction), squares.columns())
    bottom, told = squares.made()
    return ToldPoly(bottom, {tuple([pairs[at][0] for at in key]): number for key, number in told.items()})


def work_out_poly(paper, answers):
    """What a poly is by a ToldPoly of it."""
    if not isinstance(paper, ToldPoly):
        raise BadRule("paper")
    total = 0
    for keys, number in paper.terms.items():
        for unit, index in keys:
            number = number * answers[unit][index]
        total = total + number
    return total // paper.bottom


def terms_for(shape, other):
    """The terms of a poly of the shape, or of an integer."""
    if is_whole(other):
        return {(): other}
    if not is_poly_of(other, shape):
        raise BadPoly("other")
    return other.terms


def product_of(poly, other):
    """A poly times another one, or an integer."""
    terms = terms_for(poly.shape, other)
    if isinstance(other, Poly) and poly.terms != {} and terms != {} and poly.degree + other.degree > MOST_DEGREE:
        raise TooMany("degree", MOST_DEGREE)
    return Poly(poly.shape, multiplied(poly.shape, poly.terms, terms))


def is_poly_of(value, shape):
    """Whether any value is a poly of this shape."""
    return isinstance(value, Poly) and value.shape == shape


def asked_poly(layout, units, poly, bare):
    """The units in order, each once, and the bare part, behind the errors of all four."""
    check_layout(layout)
    some = told_units(layout, units)
    if not is_poly_of(poly, layout.shape):
        raise BadPoly("poly")
    return some, bare_part(layout, bare)


def open_terms(poly, bare):
    """The terms of a poly without bare places."""
    terms = poly.terms
    return {product: terms[product] for product in terms if not any([place in bare.places for place in product])}


def check_places(terms):
    """Raise TooMany if too many places stand in products."""
    if len({place: True for product in terms for place in product}) > MOST_PLACES:
        raise TooMany("places", MOST_PLACES)


def parted_along(poly, direction, columns):
    """A Parted of a poly that changes along a direction: from the empty table, or from one with one amount."""
    zero = Table(poly.shape)
    for one in [zero, *[Table(poly.shape, {poly.shape.places[column]: 1}) for column in columns]]:
        if poly(one) != poly(one + direction):
            return Parted(one, one + direction)
    return Parted(zero, direction)
