"""Lots: which of some groups of answers are enough to tell what is wanted.

A lot of groups is a mask, an integer: the first group has the highest bit. So of the lots with as
many groups the one that comes first, by the tuples of indexes, has the greatest mask.
"""

from rowvault.spans import vector_of
from rowvault.vectors import cleared, lead_of, with_vector


def matter(layout, units, bare):
    """The tuple of the units in order with an answer that has a weight outside of bare."""
    filled = ~bare
    return tuple([unit for unit in units if any([bool(one & filled) for one in layout[unit]])])


def vectors_for(layout, unit, bare):
    """The list of the vectors of a unit's answers, but for their weights at bare places."""
    filled = ~bare
    return [vector_of(one & filled) for one in layout[unit]]


def choices(count, many):
    """The list of the tuples of so many indexes below a count, ascending, in order."""
    rows = [()]
    for at in range(many):
        after = count - many + at + 1
        rows = [(*row, index) for row in rows for index in range(first_behind(row), after)]
    return rows


def first_behind(row):
    """The first index that can stand behind those of a row."""
    return row[-1] + 1 if row else 0


class Lots:
    """Which lots of groups are enough.

    groups are lists of vectors, one list for each group; wanted are the vectors to be told.
    """

    def __init__(self, groups, wanted, width):
        self._bits = [1 << at for at in range(len(groups) - 1, -1, -1)]
        self._enough = enough_lots(groups, wanted, width)

    def is_enough(self, mask):
        """Whether a lot is enough."""
        return self._enough[mask]

    def full(self):
        """The lot of all groups."""
        return len(self._enough) - 1

    def mask_of(self, indexes):
        """The lot of the groups with these indexes."""
        return sum([self._bits[index] for index in indexes])

    def indexes_of(self, mask):
        """The tuple of the indexes of the groups of a lot, ascending."""
        return tuple([index for index, bit in enumerate(self._bits) if mask & bit != 0])

    def all_lots(self):
        """The list of all lots, in order."""
        count = len(self._bits)
        return [self.mask_of(row) for many in range(count + 1) for row in choices(count, many)]

    def lots_within(self, left):
        """The list of the lots of groups that are left, in order."""
        return [mask for mask in self.all_lots() if mask & left == mask]

    def least_enough(self, left):
        """The list of the lots that are enough, but not without any one of their groups, in order."""
        return [mask for mask in self.lots_within(left) if self.wants_each(mask)]

    def wants_each(self, mask):
        """Whether a lot is enough, but not without any one of its groups."""
        if not self._enough[mask]:
            return False
        return not any([self._enough[mask ^ bit] for bit in self._bits if mask & bit != 0])

    def least_parting(self, left):
        """The list of the lots without which what is left is not enough, but is with any one of them, in order."""
        return [mask for mask in self.lots_within(left) if self.parts_each(mask, left)]

    def parts_each(self, mask, left):
        """Whether what is left is not enough without a lot, but is with any one of it."""
        others = left ^ mask
        if self._enough[others]:
            return False
        return all([self._enough[others | bit] for bit in self._bits if mask & bit != 0])


def enough_lots(groups, wanted, width):
    """The list that tells of each lot whether it is enough."""
    rows = [{}]
    enough = [are_told(wanted, {}, width)]
    for group in groups[::-1]:
        half = len(enough)
        for mask in range(half):
            # Most lots hold a smaller one that is enough; the others grow by one group.
            known = enough[mask] or is_enough_without_one(enough, half, mask)
            more = {} if known else with_vectors(rows[mask], group, width)
            rows.append(more)
            enough.append(known or are_told(wanted, more, width))
    return enough


def is_enough_without_one(enough, half, mask):
    """Whether the lot of a new group, with the bit half, and a mask is enough without one of the mask."""
    bit = 1
    while bit < half:
        if mask & bit != 0 and enough[half + mask - bit]:
            return True
        bit = bit * 2
    return False


def with_vectors(rows, vectors, width):
    """The rows and what further vectors add to them."""
    more = rows
    for vector in vectors:
        more = with_vector(more, vector, width)
    return more


def are_told(wanted, rows, width):
    """Whether all wanted vectors are sums of the rows."""
    for vector in wanted:
        if lead_of(cleared(vector, rows), width) >= 0:
            return False
    return True
