"""Kinds: what units a shape has, and which questions each of them answers."""

from rowvault.checks import is_whole_from
from rowvault.cuts import ORDERS, Cut, blocks_by, take_cut
from rowvault.errors import BadCount, BadKind, BadShape
from rowvault.questions import Question
from rowvault.shapes import Shape
from rowvault.units import unit_of
from rowvault.words import words_of

# The first words of the texts of kinds, in the order of the units.
KIND_WORDS = ("blocks", "pages", "cells", "buckets", "stripes")


class Kind:
    """What all kinds have; only the classes below it are made."""

    WORD = "kind"

    def count_on(self, shape, blocks):
        """How many units a shape has: none."""
        return 0

    def pairs_on(self, shape, blocks):
        """The list of the pairs of a unit and the tuple of its answers: none."""
        return []

    def units_on(self, shape, blocks=None):
        """Yield the pairs of a unit and the tuple of its answers, in order."""
        check_shape(shape)
        yield from self.pairs_on(shape, blocks)

    def __eq__(self, other):
        return isinstance(other, Kind) and str(self) == str(other)

    def __str__(self):
        return "kind"

    @classmethod
    def read(cls, text):
        """The kind with this text."""
        kind, words = take_kind(words_of(text), KIND_WORDS)
        words.end()
        return kind


class Blocks(Kind):
    """Each block answers its places alone."""

    WORD = "block"

    def __init__(self, cut, order="keys"):
        if not isinstance(cut, Cut):
            raise BadKind("cut")
        if not isinstance(order, str) or order not in ORDERS:
            raise BadKind("order")
        self.cut = cut
        self.order = order

    def count_on(self, shape, blocks):
        """How many blocks a shape has."""
        return len(blocks_by(self.cut, shape, self.order))

    def pairs_on(self, shape, blocks):
        """The list of the pairs of a block and its answers."""
        rows = blocks_by(self.cut, shape, self.order)
        return [(unit_of("block", at), tuple([total(shape, [place]) for place in row])) for at, row in enumerate(rows)]

    def units_on(self, shape, blocks=None):
        """Yield the pairs of a block and its answers."""
        check_shape(shape)
        yield from self.pairs_on(shape, blocks)

    def __eq__(self, other):
        return isinstance(other, Blocks) and self.cut == other.cut and self.order == other.order

    def __str__(self):
        return f"blocks {self.order} {str(self.cut)}"


class Pages(Kind):
    """Each page answers the totals of some keys."""

    WORD = "page"

    def __init__(self, room):
        if not is_whole_from(room, 1, 6):
            raise BadCount(room)
        self.room = room

    def count_on(self, shape, blocks):
        """How many pages a shape has."""
        return len(range(0, len(shape.key_names), self.room))

    def pairs_on(self, shape, blocks):
        """The list of the pairs of a page and its answers."""
        totals = [total(shape, [(key, day) for day in range(shape.days)]) for key in shape.key_names]
        firsts = range(0, len(totals), self.room)
        return [(unit_of("page", at), tuple(totals[first:first + self.room])) for at, first in enumerate(firsts)]

    def units_on(self, shape, blocks=None):
        """Yield the pairs of a page and its answers."""
        check_shape(shape)
        yield from self.pairs_on(shape, blocks)

    def __eq__(self, other):
        return isinstance(other, Pages) and self.room == other.room

    def __str__(self):
        return f"pages {self.room}"


class Cells(Kind):
    """Each cell answers the total of a run of places; runs grow from level to level."""

    WORD = "cell"

    def __init__(self, base):
        if not is_whole_from(base, 2, 6):
            raise BadCount(base)
        self.base = base

    def count_on(self, shape, blocks):
        """How many cells a shape has, on all levels."""
        count = 0
        width = 1
        while width < len(shape.places):
            width = width * self.base
            count = count + len(range(0, len(shape.places), width))
        return count

    def pairs_on(self, shape, blocks):
        """The list of the pairs of a cell and its answers."""
        pairs = []
        level = 1
        width = 1
        while width < len(shape.places):
            width = width * self.base
            for at, first in enumerate(range(0, len(shape.places), width)):
                pairs.append((unit_of("cell", level, at), (total(shape, shape.places[first:first + width]),)))
            level = level + 1
        return pairs

    def units_on(self, shape, blocks=None):
        """Yield the pairs of a cell and its answers."""
        check_shape(shape)
        yield from self.pairs_on(shape, blocks)

    def __eq__(self, other):
        return isinstance(other, Cells) and self.base == other.base

    def __str__(self):
        return f"cells {self.base}"


class Buckets(Kind):
    """Each bucket answers the total of a run of days."""

    WORD = "bucket"

    def __init__(self, width):
        if not is_whole_from(width, 1, 8):
            raise BadCount(width)
        self.width = width

    def count_on(self, shape, blocks):
        """How many buckets a shape has."""
        return len(range(0, shape.days, self.width))

    def pairs_on(self, shape, blocks):
        """The list of the pairs of a bucket and its answers."""
        pairs = []
        for at, first in enumerate(range(0, shape.days, self.width)):
            places = [place for place in shape.places if first <= place[1] < first + self.width]
            pairs.append((unit_of("bucket", at), (total(shape, places),)))
        return pairs

    def units_on(self, shape, blocks=None):
        """Yield the pairs of a bucket and its answers."""
        check_shape(shape)
        yield from self.pairs_on(shape, blocks)

    def __eq__(self, other):
        return isinstance(other, Buckets) and self.width == other.width

    def __str__(self):
        return f"buckets {self.width}"


class Stripes(Kind):
    """Each parity answers sums over the blocks of a stripe, place by place."""

    WORD = "parity"

    def __init__(self, width, parities=1):
        if not is_whole_from(width, 2, 6):
            raise BadCount(width)
        if not is_whole_from(parities, 1, 2):
            raise BadCount(parities)
        self.width = width
        self.parities = parities

    def count_on(self, shape, blocks):
        """How many parities a shape has over these blocks."""
        return len(range(0, blocks.count_on(shape, None), self.width)) * self.parities

    def pairs_on(self, shape, blocks):
        """The list of the pairs of a parity and its answers."""
        rows = blocks_by(blocks.cut, shape, blocks.order)
        pairs = []
        for stripe, first in enumerate(range(0, len(rows), self.width)):
            for parity in range(self.parities):
                answers = parity_answers(shape, rows[first:first + self.width], parity)
                pairs.append((unit_of("parity", stripe, parity), answers))
        return pairs

    def units_on(self, shape, blocks=None):
        """Yield the pairs of a parity and its answers."""
        check_shape(shape)
        if not isinstance(blocks, Blocks):
            raise BadKind("blocks")
        yield from self.pairs_on(shape, blocks)

    def __eq__(self, other):
        return isinstance(other, Stripes) and self.width == other.width and self.parities == other.parities

    def __str__(self):
        return f"stripes {self.width} {self.parities}"


def check_shape(shape):
    """Raise BadShape unless it is a shape."""
    if not isinstance(shape, Shape):
        raise BadShape("shape")


def total(shape, places):
    """The question with the weight 1 at each of the places."""
    return Question(shape, {place: 1 for place in places})


def parity_answers(shape, rows, parity):
    """The tuple of the answers of a parity over the blocks of a stripe."""
    longest = max([len(row) for row in rows])
    return tuple([parity_answer(shape, rows, parity, at) for at in range(longest)])


def parity_answer(shape, rows, parity, at):
    """The sum, over the blocks with a place at the index, of this place by the parity's weights."""
    weights = {}
    for number, row in enumerate(rows, start=1):
        if at < len(row):
            weights[row[at]] = 1 if parity == 0 else number
    return Question(shape, weights)


def take_kind(words, choices):
    """The kind that the next words tell, and the words behind it; its first word must be one of the choices."""
    word, words = words.take_one(choices)
    if word == "blocks":
        order, words = words.take_one(ORDERS)
        cut, words = take_cut(words)
        return Blocks(cut, order), words
    if word == "pages":
        room, words = words.take_from(1, 6)
        return Pages(room), words
    if word == "cells":
        base, words = words.take_from(2, 6)
        return Cells(base), words
    if word == "buckets":
        width, words = words.take_from(1, 8)
        return Buckets(width), words
    width, words = words.take_from(2, 6)
    parities, words = words.take_from(1, 2)
    return Stripes(width, parities), words
