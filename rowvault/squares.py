"""Sums of products of columns, and how they are made of products of some vectors that are given.

A sum is a dict from tuples of at most two columns, ascending, to integers other than 0.
"""

from math import gcd, lcm

from rowvault.weighers import Weigher


class Squares:
    """What some vectors of columns below a width tell of one sum of products."""

    def __init__(self, vectors, width, total):
        self._weigher = Weigher(vectors, width)
        self._total = total
        self._line = {key[0]: number for key, number in total.items() if len(key) == 1}
        self._sides = sides_of(total)

    def direction(self):
        """A direction along which the sum changes, but no given vector does; None if there is none."""
        sides = list(self._sides.values())
        for vector in [self._line, *sides]:
            if not self._weigher.can_tell(vector):
                return self._weigher.direction_for(vector)
        return None

    def columns(self):
        """The columns that stand in products of two."""
        return list(self._sides)

    def made(self):
        """A bottom and a sum of products of given vectors, by their indexes, that is bottom times the sum."""
        bottom, weights = self._weigher.weighed(self._line)
        base, pairs = self.pairs()
        common = lcm(bottom, base)
        total = {key: number * (common // base) for key, number in pairs.items()}
        for at, weight in weights.items():
            total[(at,)] = weight * (common // bottom)
        if () in self._total:
            total[()] = self._total[()] * common
        return in_lowest_terms(common, total)

    def pairs(self):
        """A bottom and the sum of products of two given vectors that is bottom times the products of two."""
        made = {column: self._weigher.weighed(side) for column, side in self._sides.items()}
        base = 1
        for bottom, _ in made.values():
            base = lcm(base, bottom)
        factors = factors_of(made, base)
        told = {at: self._weigher.weighed(vector) for at, vector in factors.items()}
        least = 1
        for bottom, _ in told.values():
            least = lcm(least, bottom)
        total = {}
        for one, (bottom, weights) in told.items():
            for other, weight in weights.items():
                key = (min(int(one), int(other)), max(int(one), int(other)))
                total[key] = total.get(key, 0) + weight * (least // bottom)
        # The sides hold each product twice.
        return 2 * base * least, total


def sides_of(total):
    """For each column of a product of two the vector by which the products of two grow along it."""
    sides = {key[0]: {} for key in total if len(key) == 2}
    sides = {**sides, **{key[1]: {} for key in total if len(key) == 2}}
    return {column: side_at(total, column) for column in sides}


def side_at(total, column):
    """The sum of the other columns of all products of two with a column; twice where it stands twice."""
    side = {}
    for key, number in total.items():
        if len(key) == 2 and column in key:
            other = key[0] + key[1] - column
            side[other] = side.get(other, 0) + (2 * number if other == column else number)
    return side


def factors_of(made, base):
    """For each given vector the vector with which it is multiplied, when each column is with its side."""
    factors = {}
    for at in [at for bottom, weights in made.values() for at in weights]:
        factors[at] = {}
    for at in list(factors):
        pairs = [(column, weights.get(at, 0) * (base // bottom)) for column, (bottom, weights) in made.items()]
        factors[at] = {column: number for column, number in pairs if number != 0}
    return factors


def in_lowest_terms(bottom, total):
    """A bottom and a sum without a common divisor, and without zeros."""
    common = bottom
    for number in total.values():
        common = gcd(common, number)
    return bottom // common, {key: number // common for key, number in total.items() if number != 0}
