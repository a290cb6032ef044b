"""Storms: all losses behind a crash, and how what is left tells the amounts."""

from math import comb, gcd, lcm

from rowvault.bases import Bases
from rowvault.crashes import JOURNAL, Wreck, new_vector, old_vector, vectors_behind
from rowvault.kinds import Blocks
from rowvault.lots import choices
from rowvault.tables import Table


class Storm:
    """All losses of so many of the units left behind crashes, each place and lot of written units looked at once."""

    def __init__(self, layout, many, journal, left):
        self._layout = layout
        self._left = left
        self._many = many
        self._journal = journal
        self._holders = {one.part.places[0]: unit for unit in layout.units for one in layout[unit]
                         if unit.startswith(Blocks.WORD) and unit in left}
        self._looks = {}

    def look(self, place, written):
        """A pair of the first loss behind which not all amounts are told, and None; or of None and a dict.

        The dict tells for all pairs of a loss and a place that no block left holds how its amount is told.
        """
        units = units_at(self._left, written)
        # What is told hangs on what is written, not on the order in which it is.
        case = (place, tuple([unit for unit in units if unit in written]))
        if case not in self._looks:
            self._looks[case] = self.looked(place, written, units)
        return self._looks[case]

    def looked(self, place, written, units):
        """The pair of a look that was not made ahead."""
        vectors = vectors_behind(self._layout, place, self._journal, written)
        told = TellingAll(self._layout, place, {unit: vectors[unit] for unit in units})
        found = {}
        for lost in lots_of(units, self._many):
            told.lose(lost)
            for other in self.bare_of_blocks(lost):
                triple = told.triple_for(other)
                if triple is None:
                    return lost, None
                found[lost, other] = triple
        return None, found

    def bare_of_blocks(self, lost):
        """The list of the places that no block left holds."""
        held = [place for place, unit in self._holders.items() if unit not in lost]
        return [place for place in self._layout.shape.places if place not in held]


class TellingAll:
    """How the units left tell each amount, looked up in one table from loss to loss."""

    def __init__(self, layout, place, vectors):
        self._place = place
        self._units = list(vectors)
        self._answer_keys = [(unit, index) for unit, rows in vectors.items() for index in range(len(rows))]
        wanted = [*[old_vector(layout, other) for other in layout.shape.places], new_vector(layout, place)]
        self._bases = Bases(list(vectors.values()), wanted, len(layout.shape.places) + 1)
        columns = self._bases.wanted_columns()
        self._columns = {other: column for other, column in zip(layout.shape.places, columns)}
        self._new = columns[-1]
        self._held = []

    def lose(self, lost):
        """Let just these units be lost."""
        self._held = [unit not in lost for unit in self._units]
        self._bases.settle(self._bases.near(None), self._held)

    def triple_for(self, other):
        """How the amount of a place is told: a bottom, weights of answers, and whether it is the new one; or None."""
        weights = self._bases.weights_of(self._columns[other], self._held)
        is_new = weights is None and other == self._place
        if is_new:
            weights = self._bases.weights_of(self._new, self._held)
        if weights is None:
            return None
        bottom, told = self.in_integers(weights)
        return bottom, told, is_new

    def in_integers(self, weights):
        """A bottom and the integers, by pairs of a unit and an index, of weights that are fractions."""
        bottom = 1
        for top, base in weights.values():
            bottom = lcm(bottom, base // gcd(top, base))
        return bottom, {self._answer_keys[at]: top * bottom // base for at, (top, base) in weights.items()}


def units_at(left, written):
    """The tuple of the units left, a written journal ahead."""
    return (JOURNAL, *left) if JOURNAL in written else left


def lots_count(units, many):
    """How many lots of so many units there are; of all, if there are fewer."""
    return comb(len(units), min(int(many), len(units)))


def lots_of(units, many):
    """The list of the lots of so many units, or of all if there are fewer, in order."""
    return [tuple([units[at] for at in row]) for row in choices(len(units), min(int(many), len(units)))]


def fault_between(layout, place, journal, written, lost):
    """Two pairs of a table and a change, alike in what is left, between which the amounts are not told."""
    vectors = vectors_behind(layout, place, journal, written)
    wreck = Wreck(layout, place, {unit: vectors[unit] for unit in vectors if unit not in lost})
    direction = fault_along(layout, place, wreck)
    return (Table(layout.shape), 0), pair_along(layout, direction)


def fault_along(layout, place, wreck):
    """A direction along which another amount changes, or both the old and the new one."""
    for other in layout.shape.places:
        direction = None if other == place else wreck.direction_for(old_vector(layout, other))
        if direction is not None:
            return direction
    # All other amounts stand still. If the old one and the change go together alone, the new one, which is not
    # told, goes, too; if each of them can go alone, this direction leaves the change as it is.
    return wreck.direction_for(old_vector(layout, place))


def along(vector, direction):
    """How much a vector changes along a direction."""
    return sum([number * direction.get(column, 0) for column, number in vector.items()])


def pair_along(layout, direction):
    """The table and the change of a direction."""
    places = layout.shape.places
    amounts = {places[column]: number for column, number in direction.items() if column < len(places)}
    return Table(layout.shape, amounts), direction.get(len(places), 0)
