"""Books: questions under names."""

from rowvault.asked import bare_part, check_layout
from rowvault.checks import is_name
from rowvault.errors import BadBook, BadLayout, BadName, BadTable, NoName, Taken, Untold
from rowvault.layouts import told_units
from rowvault.prices import by_price, prices_of
from rowvault.questions import Question, is_question_of, take_weights
from rowvault.searches import matter_at_most, telling_lots
from rowvault.shapes import Shape
from rowvault.tables import is_table_of
from rowvault.told import Teller
from rowvault.words import words_of


class Book:
    """Questions of one shape, each under a name."""

    def __init__(self, shape, *pairs):
        check_shape(shape)
        questions = {}
        for pair in pairs:
            check_pair(shape, pair, questions)
            questions[pair[0]] = pair[1]
        self.shape = shape
        self._questions = {name: questions[name] for name in sorted([str(name) for name in questions])}

    def with_question(self, name, question):
        """The book with a question under a name, in the place of an elder one."""
        if not is_name(name):
            raise BadName(name)
        if not is_question_of(question, self.shape):
            raise BadBook("question")
        others = [(other, self[other]) for other in self._questions if other != name]
        pairs = [(name, question), *others]
        return Book(self.shape, *pairs)

    def without(self, name):
        """The book without the question under a name."""
        if name not in self:
            raise NoName(name)
        pairs = [(other, self[other]) for other in self._questions if other != name]
        return Book(self.shape, *pairs)

    def told_by(self, layout, units, bare=None):
        """The ascending tuple of the names whose questions the units tell."""
        check_layout_of(layout, self.shape)
        some = told_units(layout, units)
        teller = Teller(layout, some, bare_part(layout, bare))
        return tuple([name for name in self._questions if teller.can_tell(self[name])])

    def least_units(self, layout, price, bare=None):
        """The cheapest lot of units that tells all questions, the first one of several."""
        check_layout_of(layout, self.shape)
        none = bare_part(layout, bare)
        units = matter_at_most(layout, layout.units, none)
        teller = Teller(layout, layout.units, none)
        for name in self._questions:
            if not teller.can_tell(self[name]):
                raise Untold(teller.paper_on(self[name]))
        prices = prices_of(units, price)
        lots = telling_lots(layout, units, list(self._questions.values()), none)
        return by_price(prices, lots)[0]

    def __call__(self, table):
        if not is_table_of(table, self.shape):
            raise BadTable("table")
        return {name: question(table) for name, question in self._questions.items()}

    def __len__(self):
        return len(self._questions)

    def __iter__(self):
        return iter(self._questions)

    def __contains__(self, x):
        return isinstance(x, str) and x in self._questions

    def __getitem__(self, at):
        if at not in self:
            raise NoName(at)
        return self._questions[at]

    def __or__(self, other):
        check_other(self, other)
        for name in self._questions:
            if name in other and self[name] != other[name]:
                raise Taken(name)
        more = [(name, other[name]) for name in other if name not in self]
        pairs = [*[(name, self[name]) for name in self._questions], *more]
        return Book(self.shape, *pairs)

    def __le__(self, other):
        check_other(self, other)
        return all([name in other and self[name] == other[name] for name in self._questions])

    def __eq__(self, other):
        return isinstance(other, Book) and self.shape == other.shape and self._questions == other._questions

    def __str__(self):
        if self._questions == {}:
            return "none"
        return " ; ".join([f"{name} : {str(self._questions[name])}" for name in self._questions])

    @classmethod
    def read(cls, text, shape):
        """The book with this text."""
        check_shape(shape)
        rows, words = take_rows(words_of(text), shape)
        words.end()
        pairs = [(name, Question(shape, weights)) for name, weights in rows]
        return cls(shape, *pairs)


def check_shape(shape):
    """Raise BadBook unless it is a shape."""
    if not isinstance(shape, Shape):
        raise BadBook("shape")


def check_pair(shape, pair, ahead):
    """Raise the error of what is no pair of a name, not taken ahead, and a question of the shape."""
    if not isinstance(pair, tuple) or len(pair) != 2:
        raise BadBook("pair")
    name, question = pair
    if not is_name(name):
        raise BadName(name)
    if not is_question_of(question, shape):
        raise BadBook("question")
    if name in ahead:
        raise Taken(name)


def check_other(book, other):
    """Raise BadBook unless the other one is a book of an equal shape."""
    if not isinstance(other, Book) or other.shape != book.shape:
        raise BadBook("other")


def check_layout_of(layout, shape):
    """Raise BadLayout unless it is a layout of the shape."""
    check_layout(layout)
    if layout.shape != shape:
        raise BadLayout("shape")


def take_rows(words, shape):
    """The list of the pairs of a name and the weights of its question, and the words behind them."""
    if words.peek() == "none":
        return [], words.behind()
    row, words = take_row(words, shape, "")
    rows = [row]
    while words.peek() == ";":
        row, words = take_row(words.behind(), shape, row[0])
        rows.append(row)
    return rows, words


def take_row(words, shape, after):
    """The pair of a name, above the one ahead, and the weights of its question, and the words behind."""
    name, words = take_name(words, after)
    weights, words = take_weights(words.behind_one([":"]), shape)
    return (name, weights), words


def take_name(words, after):
    """The name, above the one ahead, that the next word tells, and the words behind it."""
    if not is_name(words.peek()) or words.peek() <= after:
        words.refuse()
    return words.peek(), words.behind()
