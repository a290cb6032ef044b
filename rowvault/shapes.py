"""Shapes: the places of a store, each a key and a day."""

from rowvault.checks import is_name, is_whole, is_whole_from
from rowvault.errors import BadCount, BadPlace, BadShape, TooMany
from rowvault.words import words_of

MOST_KEYS = 6
MOST_DAYS = 8
MOST_PLACES = 36


class Shape:
    """Keys, ascending, and days from 0 on; its places are all pairs of a key and a day."""

    def __init__(self, keys, days):
        if not are_keys(keys):
            raise BadShape("keys")
        if not is_whole_from(days, 1, MOST_DAYS):
            raise BadShape("days")
        if len(keys) * days > MOST_PLACES:
            raise TooMany("places", MOST_PLACES)
        self.key_names = tuple(sorted([str(key) for key in keys]))
        self.days = days
        self.places = tuple([(key, day) for key in self.key_names for day in range(days)])
        self.indexes = {place: index for index, place in enumerate(self.places)}

    def index_of(self, place):
        """The index of a place."""
        if place not in self:
            raise BadPlace(place)
        return self.indexes[place]

    def __len__(self):
        return len(self.places)

    def __iter__(self):
        return iter(self.places)

    def __contains__(self, x):
        if not isinstance(x, tuple) or len(x) != 2:
            return False
        key, day = x
        # (key, True) equals (key, 1), so the kinds are looked at ahead of the dict.
        return isinstance(key, str) and is_whole(day) and x in self.indexes

    def __getitem__(self, at):
        if not is_whole_from(at, 0, len(self.places) - 1):
            raise BadCount(at)
        return self.places[at]

    def __or__(self, other):
        if not isinstance(other, Shape):
            raise BadShape("other")
        more = [key for key in other.key_names if key not in self.key_names]
        return Shape([*self.key_names, *more], max(int(self.days), int(other.days)))

    def __le__(self, other):
        if not isinstance(other, Shape):
            raise BadShape("other")
        held = all([key in other.key_names for key in self.key_names])
        return held and self.days <= other.days

    def __lt__(self, other):
        return self <= other and len(self) < len(other)

    def __eq__(self, other):
        return isinstance(other, Shape) and self.key_names == other.key_names and self.days == other.days

    def __str__(self):
        return " ".join([*self.key_names, "days", str(self.days)])

    @classmethod
    def read(cls, text):
        """The shape with this text."""
        keys, days, words = take_shape(words_of(text))
        words.end()
        return cls(keys, days)


def are_keys(value):
    """Whether any value is a list or tuple of unlike names, at least one and not too many."""
    if not isinstance(value, (list, tuple)) or not 1 <= len(value) <= MOST_KEYS:
        return False
    return all([is_name(key) for key in value]) and len(set(value)) == len(value)


def take_shape(words):
    """The keys and the days that the next words tell, and the words behind them."""
    keys = []
    while len(keys) < MOST_KEYS and is_key_behind(words.peek(), keys):
        keys.append(words.peek())
        words = words.behind()
    if keys == []:
        words.refuse()
    days, words = words.behind_one(["days"]).take_from(1, MOST_DAYS)
    return keys, days, words


def is_key_behind(word, keys):
    """Whether a word is a name that comes behind all of these."""
    return is_name(word) and all([key < word for key in keys])


def take_place(words, shape, after=-1):
    """The place that the next words tell, with an index above that of the one ahead, and the words behind it."""
    places = shape.places[after + 1:]
    key, words = words.take_one([place[0] for place in places])
    day, words = words.take_one([str(place[1]) for place in places if place[0] == key])
    return (key, int(day)), words
