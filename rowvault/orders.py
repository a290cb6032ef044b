"""Orders of writes: whether a crash in the midst and a loss lead to the old or to the new table."""

from rowvault.asked import check_layout
from rowvault.checks import is_whole_from
from rowvault.crashes import (
    JOURNAL, Wreck, check_journal, check_moment, check_place, new_vector, old_vector, vectors_behind,
)
from rowvault.errors import BadCount, BadOrder, TooMany, Torn
from rowvault.images import are_whole_numbers
from rowvault.storms import Storm, fault_between, lots_count, units_at
from rowvault.tables import Table
from rowvault.words import words_of

MOST_LOST = 3
MOST_LOSSES = 3000
MOST_KINDS = 4


class Order:
    """Unlike words of units, in the order in which the units are written."""

    WORDS = ("block", "page", "cell", "bucket", "parity")

    def __init__(self, *words):
        if words == ():
            raise BadOrder("words")
        for at, word in enumerate(words):
            if not is_word(word) or word in words[:at]:
                raise BadOrder(at)
        self.words = words

    def fits(self, layout):
        """Whether the words are just those of the units of a layout."""
        check_layout(layout)
        words = words_in(layout)
        return len(words) == len(self.words) and all([word in words for word in self.words])

    def writes(self, layout, place, journal="none"):
        """The tuple of what is written for a put, in turn."""
        check_order(self, layout)
        check_place(layout, place)
        check_journal(journal)
        first = [] if journal == "none" else [JOURNAL]
        touched = layout.touched_by(place)
        return tuple([*first, *[unit for word in self.words for unit in touched if word_of(unit) == word]])

    def __len__(self):
        return len(self.words)

    def __iter__(self):
        return iter(self.words)

    def __getitem__(self, at):
        if not is_whole_from(at, 0, len(self.words) - 1):
            raise BadCount(at)
        return self.words[at]

    def __contains__(self, x):
        return is_word(x) and x in self.words

    def __add__(self, other):
        if not is_word(other) or other in self.words:
            raise BadOrder("word")
        words = [*self.words, other]
        return Order(*words)

    def __sub__(self, other):
        if not is_word(other) or other not in self.words or len(self.words) == 1:
            raise BadOrder("word")
        words = [word for word in self.words if word != other]
        return Order(*words)

    def __invert__(self):
        words = self.words[::-1]
        return Order(*words)

    def __eq__(self, other):
        return isinstance(other, Order) and self.words == other.words

    def __str__(self):
        return " ".join(self.words)

    @classmethod
    def read(cls, text):
        """The order with this text."""
        told, words = take_order(words_of(text))
        words.end()
        return cls(*told)


class Safe:
    """A paper: how each amount is told behind each crash and each loss."""

    def __init__(self, tolds):
        self.tolds = tolds

    def __eq__(self, other):
        return isinstance(other, Safe) and self.tolds == other.tolds


class Unsafe:
    """A false paper: a crash and a loss, and two pairs of a table and a change that cannot be parted then."""

    def __init__(self, place, moment, lost, one, other):
        self.place = place
        self.moment = moment
        self.lost = lost
        self.one = one
        self.other = other

    def __bool__(self):
        return False

    def __eq__(self, other):
        return (isinstance(other, Unsafe) and self.place == other.place and self.moment == other.moment
                and self.lost == other.lost and self.one == other.one and self.other == other.other)


class NoSafe:
    """A false paper: an Unsafe for each order."""

    def __init__(self, papers):
        self.papers = papers

    def __bool__(self):
        return False

    def __eq__(self, other):
        return isinstance(other, NoSafe) and self.papers == other.papers


class Recovered:
    """A paper: the table behind a crash, and whether it has the new amount."""

    def __init__(self, table, is_new):
        self.table = table
        self.is_new = is_new

    def __eq__(self, other):
        return isinstance(other, Recovered) and self.table == other.table and self.is_new == other.is_new


def judge_order(layout, order, many, journal="none"):
    """A Safe of an order of writes, or an Unsafe."""
    check_judged(layout, order, many, journal)
    check_losses(layout, order, many, journal)
    return judged_by(Storm(layout, many, journal, layout.units), layout, order, journal)


def first_safe(layout, many, journal="none"):
    """The first order that is safe, or a NoSafe."""
    check_layout(layout)
    check_many(many)
    check_journal(journal)
    if len(words_in(layout)) > MOST_KINDS:
        raise TooMany("kinds", MOST_KINDS)
    orders = orders_on(layout)
    if orders != []:
        check_losses(layout, orders[0], many, journal)
    storm = Storm(layout, many, journal, layout.units)
    papers = {}
    for order in orders:
        paper = judged_by(storm, layout, order, journal)
        if paper:
            return order
        papers[str(order)] = paper
    return NoSafe(papers)


def recovered(layout, order, place, moment, left, journal="none"):
    """The Recovered of what the units that are left answer behind a crash."""
    check_layout(layout)
    check_order(order, layout)
    writes = order.writes(layout, place, journal)
    check_moment(moment, writes)
    vectors = vectors_behind(layout, place, journal, writes[:moment])
    if not is_left(vectors, left):
        raise BadOrder("left")
    wreck = Wreck(layout, place, {unit: vectors[unit] for unit in vectors if unit in left})
    amounts = {}
    for other in layout.shape.places:
        amounts[other] = wreck.worked_out(old_vector(layout, other), left)
    new = wreck.worked_out(new_vector(layout, place), left)
    if new is not None:
        amounts[place] = new
    if any([amount is None for amount in amounts.values()]):
        raise Torn()
    return Recovered(Table(layout.shape, amounts), new is not None)


def is_word(value):
    """Whether any value is a word of orders."""
    return isinstance(value, str) and value in Order.WORDS


def word_of(unit):
    """The word of a unit."""
    return unit.split(" ")[0]


def words_in(layout):
    """The list of the words of the units of a layout, in order."""
    return list({word_of(unit): True for unit in layout.units})


def check_order(order, layout):
    """Raise BadOrder unless it is an order that fits the layout."""
    if not isinstance(order, Order) or not order.fits(layout):
        raise BadOrder("order")


def check_many(many):
    """Raise BadCount unless it is a number of units that may be lost."""
    if not is_whole_from(many, 0, MOST_LOST):
        raise BadCount(many)


def check_judged(layout, order, many, journal):
    """Raise the error of what an order is judged by."""
    check_layout(layout)
    check_order(order, layout)
    check_many(many)
    check_journal(journal)


def check_losses(layout, order, many, journal):
    """Raise TooMany for too many places, moments and losses."""
    count = 0
    for place in layout.shape.places:
        writes = order.writes(layout, place, journal)
        for moment in range(len(writes) + 1):
            count = count + lots_count(units_at(layout.units, writes[:moment]), many)
    if count > MOST_LOSSES:
        raise TooMany("losses", MOST_LOSSES)


def judged_by(storm, layout, order, journal):
    """A Safe of an order, or an Unsafe."""
    tolds = {}
    for place in layout.shape.places:
        writes = order.writes(layout, place, journal)
        for moment in range(len(writes) + 1):
            lost, found = storm.look(place, writes[:moment])
            if lost is not None:
                one, other = fault_between(layout, place, journal, writes[:moment], lost)
                return Unsafe(place, moment, lost, one, other)
            for (gone, other), triple in found.items():
                tolds[place, moment, gone, other] = triple
    return Safe(tolds)


def orders_on(layout):
    """The list of all orders that fit a layout, by their tuples of words."""
    rows = [()]
    words = sorted([str(word) for word in words_in(layout)])
    for _ in words:
        rows = [(*row, word) for row in rows for word in words if word not in row]
    return [Order(*row) for row in rows if row != ()]


def is_left(vectors, value):
    """Whether any value is a dict from some of the units to tuples of as many integers as they have answers."""
    if not isinstance(value, dict):
        return False
    if not all([isinstance(unit, str) and unit in vectors for unit in value]):
        return False
    return all([are_whole_numbers(answers, len(vectors[unit])) for unit, answers in value.items()])


def take_order(words):
    """The list of the unlike words that the next words tell, and the words behind them."""
    word, words = words.take_one(Order.WORDS)
    told = [word]
    while words.peek() in Order.WORDS and words.peek() not in told:
        told.append(words.peek())
        words = words.behind()
    return told, words
