"""Weighers: how a vector is made of some given ones, or along which direction it is not."""

from rowvault.vectors import cleared, direction_at, lead_of, rows_of


class Weigher:
    """What some vectors of columns below a width tell, reckoned once for any other ones."""

    def __init__(self, vectors, width):
        # A column behind those of the vectors tells how often a given one is in a row.
        self._made = rows_of([{**vector, width + at: 1} for at, vector in enumerate(vectors)], width)
        self._width = width
        self._own = width + len(vectors)

    def can_tell(self, vector):
        """Whether some multiple of a vector is a sum of multiples of the given ones."""
        return lead_of(cleared(vector, self._made), self._width) < 0

    def weighed(self, vector):
        """A bottom and weights by the indexes of given vectors, whose sum is bottom times the vector; or None."""
        rest = cleared({**vector, self._own: 1}, self._made)
        if lead_of(rest, self._width) >= 0:
            return None
        weights = {at - self._width: -rest[at] for at in sorted([int(column) for column in rest]) if at != self._own}
        return rest[self._own], weights

    def direction_for(self, vector):
        """The first direction along which the vector is not 0, but all given ones are; or None."""
        free = lead_of(cleared(vector, self._made), self._width)
        return None if free < 0 else direction_at(free, self._made)
