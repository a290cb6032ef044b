"""Tables: an amount for each place of a shape."""

from rowvault.checks import is_whole
from rowvault.errors import BadAmount, BadCount, BadPart, BadPlace, BadTable
from rowvault.parts import is_part_of
from rowvault.shapes import Shape, take_place
from rowvault.words import whole_text, words_of


class Table:
    """An integer at each place of a shape; amounts has those that are not 0."""

    def __init__(self, shape, amounts=None):
        check_shape(shape)
        if amounts is not None and not isinstance(amounts, dict):
            raise BadTable("amounts")
        given = {} if amounts is None else amounts
        check_amounts(shape, given)
        self.shape = shape
        self.amounts = {place: given[place] for place in shape.places if given.get(place, 0) != 0}

    @staticmethod
    def of(shape, *rows):
        """The table with the sums of rows of a key, a day and an amount."""
        check_shape(shape)
        check_rows(shape, rows)
        amounts = {}
        for key, day, amount in rows:
            amounts[key, day] = amounts.get((key, day), 0) + amount
        return Table(shape, amounts)

    def with_amount(self, place, amount):
        """The table with this amount at a place."""
        if place not in self.shape:
            raise BadPlace(place)
        if not is_whole(amount):
            raise BadAmount(amount)
        return Table(self.shape, {other: self[other] if other != place else amount for other in self.shape.places})

    def __len__(self):
        return len(self.amounts)

    def __bool__(self):
        return bool(self.amounts)

    def __iter__(self):
        return iter(self.amounts)

    def __getitem__(self, at):
        if at not in self.shape:
            raise BadPlace(at)
        return self.amounts.get(at, 0)

    def __add__(self, other):
        check_other(self, other)
        return Table(self.shape, {place: self[place] + other[place] for place in self.shape.places})

    def __sub__(self, other):
        check_other(self, other)
        return Table(self.shape, {place: self[place] - other[place] for place in self.shape.places})

    def __neg__(self):
        return times(self, -1)

    def __mul__(self, other):
        return times(self, other)

    def __rmul__(self, other):
        return times(self, other)

    def __and__(self, other):
        if not is_part_of(other, self.shape):
            raise BadPart("other")
        return Table(self.shape, {place: self[place] for place in other.places})

    def __eq__(self, other):
        return isinstance(other, Table) and self.shape == other.shape and self.amounts == other.amounts

    def __str__(self):
        if self.amounts == {}:
            return "-"
        return " , ".join([f"{key} {day} {whole_text(self[key, day])}" for key, day in self.amounts])

    @classmethod
    def read(cls, text, shape):
        """The table with this text."""
        check_shape(shape)
        amounts, words = take_amounts(words_of(text), shape)
        words.end()
        return cls(shape, amounts)


def check_shape(shape):
    """Raise BadTable unless it is a shape."""
    if not isinstance(shape, Shape):
        raise BadTable("shape")


def check_amounts(shape, amounts):
    """Raise the error of the first key that is no place, then of the first value that is no amount."""
    for place in amounts:
        if place not in shape:
            raise BadPlace(place)
    for amount in amounts.values():
        if not is_whole(amount):
            raise BadAmount(amount)


def check_rows(shape, rows):
    """Raise the error of the first row that is no triple, then of the first one that is wrong."""
    for at, row in enumerate(rows):
        if not isinstance(row, tuple) or len(row) != 3:
            raise BadTable(at)
    for key, day, amount in rows:
        if (key, day) not in shape:
            raise BadPlace((key, day))
        if not is_whole(amount):
            raise BadAmount(amount)


def check_other(table, other):
    """Raise BadTable unless the other one is a table of an equal shape."""
    if not is_table_of(other, table.shape):
        raise BadTable("other")


def is_table_of(value, shape):
    """Whether any value is a table of this shape."""
    return isinstance(value, Table) and value.shape == shape


def times(table, number):
    """The table with all amounts times a number."""
    if not is_whole(number):
        raise BadCount(number)
    return Table(table.shape, {place: table.amounts[place] * number for place in table.amounts})


def take_amounts(words, shape):
    """The dict from places to amounts that the next words tell, and the words behind them."""
    if words.peek() == "-":
        return {}, words.behind()
    amounts = {}
    place, words = take_place(words, shape)
    amounts[place], words = take_weight(words)
    while words.peek() == ",":
        place, words = take_place(words.behind(), shape, shape.index_of(place))
        amounts[place], words = take_weight(words)
    return amounts, words


def take_weight(words):
    """The integer other than 0 that the next word tells, and the words behind it."""
    if words.peek() == "0":
        words.refuse()
    return words.take_whole()
