"""Questions: an integer, the weight, at each place of a shape."""

from math import gcd

from rowvault.checks import is_whole
from rowvault.errors import BadAmount, BadPart, BadPlace, BadQuestion, BadTable
from rowvault.parts import Part, is_part_of
from rowvault.shapes import Shape, take_place
from rowvault.tables import check_amounts, is_table_of, take_weight
from rowvault.words import whole_text, words_of


class Question:
    """A sum of amounts, each times a weight; weights has those that are not 0."""

    def __init__(self, shape, weights):
        check_shape(shape)
        if not isinstance(weights, dict):
            raise BadQuestion("weights")
        check_amounts(shape, weights)
        places = [place for place in shape.places if weights.get(place, 0) != 0]
        self.shape = shape
        self.weights = {place: weights[place] for place in places}
        self.part = Part(shape, *places)

    @staticmethod
    def of(part):
        """The question with the weight 1 at each place of a part."""
        if not isinstance(part, Part):
            raise BadQuestion("part")
        return Question(part.shape, {place: 1 for place in part.places})

    @staticmethod
    def none(shape):
        """The question with the weight 0 everywhere."""
        return Question(shape, {})

    def lowest(self):
        """The question in lowest terms, the first weight above 0."""
        common = 0
        for weight in self.weights.values():
            common = gcd(common, weight)
        if common == 0:
            return self
        if self.weights[self.part.places[0]] < 0:
            common = -common
        return Question(self.shape, {place: self.weights[place] // common for place in self.weights})

    def __call__(self, table):
        if not is_table_of(table, self.shape):
            raise BadTable("table")
        return sum([weight * table[place] for place, weight in self.weights.items()])

    def __bool__(self):
        return bool(self.weights)

    def __iter__(self):
        raise TypeError("a question cannot be iterated over")

    def __getitem__(self, at):
        if at not in self.shape:
            raise BadPlace(at)
        return self.weights.get(at, 0)

    def __add__(self, other):
        check_other(self, other)
        return Question(self.shape, {place: self[place] + other[place] for place in self.shape.places})

    def __sub__(self, other):
        check_other(self, other)
        return Question(self.shape, {place: self[place] - other[place] for place in self.shape.places})

    def __neg__(self):
        return times(self, -1)

    def __mul__(self, other):
        return times(self, other)

    def __rmul__(self, other):
        return times(self, other)

    def __and__(self, other):
        if not is_part_of(other, self.shape):
            raise BadPart("other")
        return Question(self.shape, {place: self[place] for place in other.places})

    def __xor__(self, other):
        check_other(self, other)
        places = [place for place in self.shape.places if self[place] != other[place]]
        return Part(self.shape, *places)

    def __eq__(self, other):
        return isinstance(other, Question) and self.shape == other.shape and self.weights == other.weights

    def __str__(self):
        if self.weights == {}:
            return "-"
        return " , ".join([f"{whole_text(self[key, day])} {key} {day}" for key, day in self.weights])

    @classmethod
    def read(cls, text, shape):
        """The question with this text."""
        check_shape(shape)
        weights, words = take_weights(words_of(text), shape)
        words.end()
        return cls(shape, weights)


def check_shape(shape):
    """Raise BadQuestion unless it is a shape."""
    if not isinstance(shape, Shape):
        raise BadQuestion("shape")


def check_other(question, other):
    """Raise BadQuestion unless the other one is a question of an equal shape."""
    if not is_question_of(other, question.shape):
        raise BadQuestion("other")


def is_question_of(value, shape):
    """Whether any value is a question of this shape."""
    return isinstance(value, Question) and value.shape == shape


def times(question, number):
    """The question with all weights times a number."""
    if not is_whole(number):
        raise BadAmount(number)
    return Question(question.shape, {place: question.weights[place] * number for place in question.weights})


def take_weights(words, shape):
    """The dict from places to weights that the next words tell, and the words behind them."""
    if words.peek() == "-":
        return {}, words.behind()
    weights = {}
    weight, words = take_weight(words)
    place, words = take_place(words, shape)
    weights[place] = weight
    while words.peek() == ",":
        weight, words = take_weight(words.behind())
        place, words = take_place(words, shape, shape.index_of(place))
        weights[place] = weight
    return weights, words
