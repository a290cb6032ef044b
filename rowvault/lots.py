"""Lots: which of some groups of answers are enough to tell what is wanted.

A lot of groups is a mask, an integer: the first group has the highest bit. So of the lots with as
many groups the one that comes first, by the tuples of indexes, has the greatest mask. Many lots
together are an integer too: it has the bit of the number of each of their masks.
"""

from rowvault.bases import Bases
from rowvault.spans import vector_but


def choices(count, many):
    """The list of the tuples of so many indexes below a count, ascending, in order."""
    rows = [()]
    for at in range(many):
        after = count - many + at + 1
        rows = [(*row, index) for row in rows for index in range(first_behind(row), after)]
    return rows


def first_behind(row):
    """The first index that can stand behind those of a row."""
    return row[-1] + 1 if row else 0


def matter(layout, units, bare):
    """The tuple of the units in order with an answer that has a weight outside of bare."""
    return tuple([unit for unit in units if any([vector != {} for vector in vectors_for(layout, unit, bare)])])


def vectors_for(layout, unit, bare):
    """The list of the vectors of a unit's answers, but for their weights at bare places."""
    return [vector_but(one, bare) for one in layout[unit]]


class Lots:
    """Which lots of groups are enough.

    groups are lists of vectors, one list for each group; wanted are the vectors to be told, None
    standing for all that all groups tell.
    """

    def __init__(self, groups, wanted, width):
        self._bits = [1 << at for at in range(len(groups) - 1, -1, -1)]
        self._every = (1 << (1 << len(groups))) - 1
        # For each group all lots that lack it.
        self._lacking = [self._every // ((1 << bit) + 1) for bit in self._bits]
        self._enough = self.enough_by(groups, wanted, Bases(groups, wanted, width))

    def enough_by(self, groups, wanted, bases):
        """All lots that are enough for what is wanted, one vector after another."""
        if wanted is None:
            return self._every & ~self.short_by(bases, None, 0, 0)
        short = 0
        for vector, column in zip(wanted, bases.wanted_columns()):
            told = 0
            for at in [at for at, group in enumerate(groups) if vector in group]:
                told = told | self.holding([at])
            short = self.short_by(bases, column, told, short)
        return self._every & ~short

    def short_by(self, bases, column, told, short):
        """All lots known to be short and those that do not tell a wanted column; some are known to tell it."""
        near = bases.near(column)
        left = self._every & ~short & ~told
        while left != 0:
            mask = (left & -left).bit_length() - 1
            is_told, some = bases.look(column, near, [mask & bit != 0 for bit in self._bits])
            # One look settles all lots that hold these groups, or all that lack them.
            if is_told:
                told = told | self.holding(some)
            else:
                short = short | self.apart_from(some)
            left = self._every & ~short & ~told
        return short

    def holding(self, indexes):
        """All lots that have all of some groups."""
        lots = self._every
        for index in indexes:
            lots = lots & ~self._lacking[index]
        return lots

    def apart_from(self, indexes):
        """All lots that have none of some groups."""
        lots = self._every
        for index in indexes:
            lots = lots & self._lacking[index]
        return lots

    def is_enough(self, mask):
        """Whether a lot is enough."""
        return (self._enough >> mask) & 1 == 1

    def full(self):
        """The lot of all groups."""
        return (1 << len(self._bits)) - 1

    def mask_of(self, indexes):
        """The lot of the groups with these indexes."""
        return sum([self._bits[index] for index in indexes])

    def indexes_of(self, mask):
        """The tuple of the indexes of the groups of a lot, ascending."""
        return tuple([index for index, bit in enumerate(self._bits) if mask & bit != 0])

    def least_enough(self, left):
        """The list of the lots that are enough, but not without any one of their groups, in order."""
        return [mask for mask in self.least_of(self._enough) if mask & left == mask]

    def least_parting(self, left):
        """The list of the lots without which what is left is not enough, but is with any one of them, in order."""
        lots = self._every & ~self._enough
        # First the lot of all other groups stands in the place of each lot.
        for bit, lacking in zip(self._bits, self._lacking):
            lots = ((lots & lacking) << bit) | ((lots >> bit) & lacking)
            if left & bit == 0:
                # What is lost is lacking to each lot.
                lots = (lots >> bit) & lacking
        return self.least_of(lots)

    def least_of(self, lots):
        """The list of the lots that hold no smaller one of the lots, in order; each that holds one is among them."""
        greater = 0
        for bit, lacking in zip(self._bits, self._lacking):
            greater = greater | ((lots & lacking) << bit)
        return self.in_order(lots & ~greater)

    def in_order(self, lots):
        """The list of the lots, fewer groups first, then by their groups."""
        size = 1 << len(self._bits)
        found = []
        while lots != 0:
            mask = lots.bit_length() - 1
            lots = lots ^ (1 << mask)
            found.append(len(self.indexes_of(mask)) * size + size - 1 - mask)
        return [size - 1 - place % size for place in sorted([int(one) for one in found])]
