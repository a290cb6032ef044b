"""Cuts: where the blocks of a column end."""

from rowvault.checks import is_whole_from
from rowvault.errors import BadCount, BadKind, BadShape, TooMany
from rowvault.shapes import Shape
from rowvault.words import words_of

ORDERS = ("keys", "days")
MOST = 36


class Cut:
    """What all cuts have; only the classes below it are made.

    Each cut tells the sizes of the blocks on a shape, which come round.
    """

    def sizes_on(self, shape, order):
        """The sizes of the blocks: all places together."""
        return (len(shape.places),)

    def __call__(self, shape, order="keys"):
        check_cutting(shape, order)
        return blocks_by(self, shape, order)

    def __eq__(self, other):
        return isinstance(other, Cut) and str(self) == str(other)

    def __str__(self):
        return "cut"

    @classmethod
    def read(cls, text):
        """The cut with this text."""
        cut, words = take_cut(words_of(text))
        words.end()
        return cut


class Every(Cut):
    """Blocks end behind so many places."""

    def __init__(self, size):
        if not is_whole_from(size, 1, MOST):
            raise BadCount(size)
        self.size = size

    def sizes_on(self, shape, order):
        """The one size."""
        return (self.size,)

    def __call__(self, shape, order="keys"):
        check_cutting(shape, order)
        return blocks_by(self, shape, order)

    def __eq__(self, other):
        return isinstance(other, Every) and self.size == other.size

    def __str__(self):
        return f"every {self.size}"


class Leads(Cut):
    """Blocks end behind the last place of a key, or of a day."""

    def sizes_on(self, shape, order):
        """As many places as a key has, or a day."""
        return (shape.days,) if order == "keys" else (len(shape.key_names),)

    def __call__(self, shape, order="keys"):
        check_cutting(shape, order)
        return blocks_by(self, shape, order)

    def __eq__(self, other):
        return isinstance(other, Leads)

    def __str__(self):
        return "leads"


class Sizes(Cut):
    """Blocks end behind as many places as the next size tells."""

    def __init__(self, *sizes):
        if sizes == ():
            raise BadCount(None)
        for size in sizes:
            if not is_whole_from(size, 1, MOST):
                raise BadCount(size)
        if len(sizes) > MOST:
            raise TooMany("sizes", MOST)
        self.sizes = sizes

    def sizes_on(self, shape, order):
        """The sizes."""
        return self.sizes

    def __call__(self, shape, order="keys"):
        check_cutting(shape, order)
        return blocks_by(self, shape, order)

    def __eq__(self, other):
        return isinstance(other, Sizes) and self.sizes == other.sizes

    def __str__(self):
        return " ".join(["sizes", *[str(size) for size in self.sizes]])


def check_cutting(shape, order):
    """Raise the error of what is no shape, or no order of places."""
    if not isinstance(shape, Shape):
        raise BadShape("shape")
    if not isinstance(order, str) or order not in ORDERS:
        raise BadKind("order")


def blocks_by(cut, shape, order):
    """The tuple of the blocks, tuples of places, in an order of places."""
    places = list(shape.places)
    if order == "days":
        places = [(key, day) for day in range(shape.days) for key in shape.key_names]
    sizes = cut.sizes_on(shape, order)
    blocks = []
    start = 0
    while start < len(places):
        after = start + sizes[len(blocks) % len(sizes)]
        blocks.append(tuple(places[start:after]))
        start = after
    return tuple(blocks)


def take_cut(words):
    """The cut that the next words tell, and the words behind it."""
    word, words = words.take_one(["every", "leads", "sizes"])
    if word == "leads":
        return Leads(), words
    size, words = words.take_from(1, MOST)
    if word == "every":
        return Every(size), words
    sizes = [size]
    # Behind a size the text can end, so what is no size is left to what follows.
    while len(sizes) < MOST and words.is_at_whole():
        size, words = words.take_from(1, MOST)
        sizes.append(size)
    return Sizes(*sizes), words
