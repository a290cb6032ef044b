"""Parts: some places of a shape."""

from rowvault.checks import is_whole_from
from rowvault.errors import BadCount, BadName, BadPart, BadPlace
from rowvault.shapes import Shape, take_place
from rowvault.words import words_of


class Part:
    """Some places of a shape, in order, each once."""

    def __init__(self, shape, *places):
        check_shape(shape)
        check_places(shape, places)
        held = {place: True for place in places}
        self.shape = shape
        self.places = tuple([place for place in shape.places if place in held])

    @staticmethod
    def whole(shape):
        """All places."""
        check_shape(shape)
        return Part(shape, *shape.places)

    @staticmethod
    def none(shape):
        """No places."""
        return Part(shape)

    @staticmethod
    def of_keys(shape, *keys):
        """The places of some keys, on all days."""
        check_shape(shape)
        for key in keys:
            if key not in shape.key_names:
                raise BadName(key)
        places = [place for place in shape.places if place[0] in keys]
        return Part(shape, *places)

    @staticmethod
    def of_days(shape, first, after):
        """The places on the days from first on, ahead of after, of all keys."""
        check_shape(shape)
        if not is_whole_from(first, 0, shape.days):
            raise BadCount(first)
        if not is_whole_from(after, 0, shape.days):
            raise BadCount(after)
        places = [place for place in shape.places if first <= place[1] < after]
        return Part(shape, *places)

    def __len__(self):
        return len(self.places)

    def __bool__(self):
        return bool(self.places)

    def __iter__(self):
        return iter(self.places)

    def __contains__(self, x):
        return x in self.shape and x in self.places

    def __getitem__(self, at):
        if not is_whole_from(at, 0, len(self.places) - 1):
            raise BadCount(at)
        return self.places[at]

    def __and__(self, other):
        check_other(self, other)
        places = [place for place in self.places if place in other.places]
        return Part(self.shape, *places)

    def __or__(self, other):
        check_other(self, other)
        places = [*self.places, *other.places]
        return Part(self.shape, *places)

    def __sub__(self, other):
        check_other(self, other)
        places = [place for place in self.places if place not in other.places]
        return Part(self.shape, *places)

    def __xor__(self, other):
        return (self | other) - (self & other)

    def __invert__(self):
        places = [place for place in self.shape.places if place not in self.places]
        return Part(self.shape, *places)

    def __le__(self, other):
        check_other(self, other)
        return all([place in other.places for place in self.places])

    def __lt__(self, other):
        return self <= other and len(self) < len(other)

    def __eq__(self, other):
        return isinstance(other, Part) and self.shape == other.shape and self.places == other.places

    def __str__(self):
        if self.places == ():
            return "-"
        return " , ".join([f"{key} {day}" for key, day in self.places])

    @classmethod
    def read(cls, text, shape):
        """The part with this text."""
        check_shape(shape)
        places, words = take_places(words_of(text), shape)
        words.end()
        return cls(shape, *places)


def check_shape(shape):
    """Raise BadPart unless it is a shape."""
    if not isinstance(shape, Shape):
        raise BadPart("shape")


def check_places(shape, places):
    """Raise BadPlace with the first value that is no place of the shape."""
    for place in places:
        if place not in shape:
            raise BadPlace(place)


def check_other(part, other):
    """Raise BadPart unless the other one is a part of an equal shape."""
    if not is_part_of(other, part.shape):
        raise BadPart("other")


def is_part_of(value, shape):
    """Whether any value is a part of this shape."""
    return isinstance(value, Part) and value.shape == shape


def take_places(words, shape):
    """The places, in order, that the next words tell, and the words behind them."""
    if words.peek() == "-":
        return [], words.behind()
    place, words = take_place(words, shape)
    places = [place]
    while words.peek() == ",":
        place, words = take_place(words.behind(), shape, shape.index_of(place))
        places.append(place)
    return places, words
