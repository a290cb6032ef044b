"""Spans: all questions that some questions tell."""

from rowvault.errors import BadSpan
from rowvault.parts import Part
from rowvault.questions import Question, is_question_of
from rowvault.shapes import Shape
from rowvault.tables import Table
from rowvault.vectors import below, cleared, direction_at, directions_of, in_lowest_terms, lead_of, rows_of


class Weighed:
    """A paper: bottom times a question is the sum of the given questions, each times its weight."""

    def __init__(self, bottom, weights):
        self.bottom = bottom
        self.weights = weights

    def __eq__(self, other):
        return isinstance(other, Weighed) and self.bottom == other.bottom and self.weights == other.weights


class Span:
    """The span of some questions, and how its rows are made of them."""

    def __init__(self, shape, *questions):
        if not isinstance(shape, Shape):
            raise BadSpan("shape")
        for at, question in enumerate(questions):
            if not is_question_of(question, shape):
                raise BadSpan(at)
        # A column behind the places tells how often a given question is in a row.
        vectors = [marked(question, len(shape) + at) for at, question in enumerate(questions)]
        made = rows_of(vectors, len(shape))
        self.shape = shape
        self.given = questions
        self._made = made
        self._rows = tuple([question_of(shape, below(row, len(shape))) for row in made.values()])

    @property
    def rows(self):
        """The tuple of the rows, by their leading places."""
        return self._rows

    def weigh(self, question):
        """How the question is made of the given ones, or None if it is not in the span."""
        check_question(self, question)
        width, own = len(self.shape), len(self.shape) + len(self.given)
        rest = cleared(marked(question, own), self._made)
        if lead_of(rest, width) >= 0:
            return None
        return Weighed(rest[own], tuple([-rest.get(column, 0) for column in range(width, own)]))

    def directions(self):
        """Yield the directions, one for each place that leads no row."""
        for vector in directions_of(self._made, len(self.shape)):
            yield table_of(self.shape, vector)

    def direction_for(self, question):
        """The first direction along which a question is not 0, or None."""
        check_question(self, question)
        free = lead_of(cleared(vector_of(question), self._made), len(self.shape))
        # What is left of the question is 0 at all leading places, so along this direction it is not 0.
        return None if free < 0 else table_of(self.shape, direction_at(free, self._made))

    def told_part(self):
        """The part of the places whose amounts are in the span."""
        places = [row.part.places[0] for row in self._rows if len(row.part) == 1]
        return Part(self.shape, *places)

    def __len__(self):
        return len(self._rows)

    def __iter__(self):
        return iter(self._rows)

    def __contains__(self, x):
        if not is_question_of(x, self.shape):
            return False
        return lead_of(cleared(vector_of(x), self._made), len(self.shape)) < 0

    def __add__(self, other):
        check_other(self, other)
        questions = [*self.given, *other.given]
        return Span(self.shape, *questions)

    def __and__(self, other):
        check_other(self, other)
        width = len(self.shape)
        # What both have is what is 0 along the directions of the one and along those of the other.
        along = [*directions_of(self._made, width), *directions_of(other._made, width)]
        both = rows_of(directions_of(rows_of(along, width), width), width)
        questions = [question_of(self.shape, in_lowest_terms(row)) for row in both.values()]
        return Span(self.shape, *questions)

    def __le__(self, other):
        check_other(self, other)
        return all([row in other for row in self._rows])

    def __lt__(self, other):
        return self <= other and len(self) < len(other)

    def __eq__(self, other):
        return isinstance(other, Span) and self.shape == other.shape and self._rows == other.rows


def check_question(span, question):
    """Raise BadSpan unless it is a question of the span's shape."""
    if not is_question_of(question, span.shape):
        raise BadSpan("question")


def check_other(span, other):
    """Raise BadSpan unless the other one is a span of an equal shape."""
    if not isinstance(other, Span) or span.shape != other.shape:
        raise BadSpan("other")


def vector_of(question):
    """The weights by the indexes of their places."""
    indexes = question.shape.indexes
    return {indexes[place]: weight for place, weight in question.weights.items()}


def vector_but(question, bare):
    """The weights outside of a part by the indexes of their places."""
    if bare.places == ():
        return vector_of(question)
    indexes = question.shape.indexes
    return {indexes[place]: weight for place, weight in question.weights.items() if place not in bare.places}


def table_of(shape, vector):
    """The table with these amounts by the indexes of their places."""
    return Table(shape, {shape.places[at]: vector[at] for at in vector})


def marked(question, column):
    """The weights by the indexes of their places, and 1 at a column behind them."""
    vector = vector_of(question)
    return {**vector, column: 1}


def question_of(shape, vector):
    """The question with these weights by the indexes of their places."""
    return Question(shape, {shape.places[at]: vector[at] for at in vector})
