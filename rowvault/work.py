"""What plans work out: sums of answers that are read, each times a fraction, and of a fraction."""

from math import gcd, lcm

from rowvault.errors import TooMany

MOST_NODES = 60


class Work:
    """A bottom, weights of pairs of a unit and an index, and a number: their sum over the bottom.

    reads are these pairs as they are written, each as often as it stands; size is the number of plans.
    """

    def __init__(self, size, reads, bottom, weights, number):
        if size > MOST_NODES:
            raise TooMany("nodes", MOST_NODES)
        self.size = size
        self.reads = reads
        self.bottom = bottom
        self.weights = weights
        self.number = number

    def read_units(self):
        """The list of the units that are read, as they are written."""
        return [unit for unit, index in self.reads]


def reading_work(unit, index):
    """The work of a read."""
    return Work(1, ((unit, index),), 1, {(unit, index): 1}, 0)


def given_work(value):
    """The work of an integer."""
    return Work(1, (), 1, {}, value)


def joined_work(one, other, times):
    """The work of one and of another one so many times."""
    bottom = lcm(one.bottom, other.bottom)
    left, right = bottom // one.bottom, bottom // other.bottom * times
    weights = {}
    for pair in [*one.weights, *other.weights]:
        weights[pair] = one.weights.get(pair, 0) * left + other.weights.get(pair, 0) * right
    number = one.number * left + other.number * right
    return lowest_work(one.size + other.size + 1, (*one.reads, *other.reads), bottom, weights, number)


def scaled_work(one, top, bottom):
    """The work of one, times a top, over a bottom."""
    weights = {pair: weight * top for pair, weight in one.weights.items()}
    return lowest_work(one.size + 1, one.reads, one.bottom * bottom, weights, one.number * top)


def lowest_work(size, reads, bottom, weights, number):
    """The work in lowest terms."""
    common = gcd(bottom, number)
    for weight in weights.values():
        common = gcd(common, weight)
    lowest = {pair: weight // common for pair, weight in weights.items() if weight != 0}
    return Work(size, reads, bottom // common, lowest, number // common)
