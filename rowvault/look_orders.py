"""Whether papers about orders of writes are right; nothing is searched."""

from rowvault.asked import check_layout
from rowvault.checks import is_whole, is_whole_from
from rowvault.crashes import check_journal, new_vector, old_vector, vectors_behind
from rowvault.look_readings import is_lot_of
from rowvault.orders import NoSafe, Safe, Unsafe, check_judged, check_many, orders_on
from rowvault.storms import along, lots_of, units_at
from rowvault.tables import is_table_of


def shows_safe(layout, order, many, value, journal="none"):
    """Whether any value is a right Safe of an order."""
    check_judged(layout, order, many, journal)
    if not isinstance(value, Safe) or not isinstance(value.tolds, dict):
        return False
    if not all([is_case(layout, case) for case in value.tolds]):
        return False
    count = 0
    for place in layout.shape.places:
        writes = order.writes(layout, place, journal)
        for moment in range(len(writes) + 1):
            look = Look(layout, place, journal, writes[:moment])
            found = look.tolds_among(value.tolds, moment, many)
            if found is None:
                return False
            count = count + found
    return count == len(value.tolds)


def shows_unsafe(layout, order, many, value, journal="none"):
    """Whether any value is a right Unsafe of an order."""
    check_judged(layout, order, many, journal)
    return is_unsafe(layout, order, many, value, journal)


def shows_no_safe(layout, many, value, journal="none"):
    """Whether any value is a right NoSafe of all orders that fit."""
    check_layout(layout)
    check_many(many)
    check_journal(journal)
    if not isinstance(value, NoSafe) or not isinstance(value.papers, dict):
        return False
    orders = orders_on(layout)
    if len(value.papers) != len(orders):
        return False
    for order in orders:
        if str(order) not in value.papers:
            return False
        if not is_unsafe(layout, order, many, value.papers[str(order)], journal):
            return False
    return True


class Look:
    """What the units answer behind one crash."""

    def __init__(self, layout, place, journal, written):
        self.layout = layout
        self.place = place
        self.units = units_at(layout.units, written)
        self.vectors = vectors_behind(layout, place, journal, written)

    def tolds_among(self, tolds, moment, many):
        """How many of the tolds there must be for this moment, all of them being right; otherwise None."""
        count = 0
        for lost in lots_of(self.units, many):
            for other in self.bare_of_blocks(lost):
                case = (self.place, moment, lost, other)
                if case not in tolds or not self.is_triple(lost, other, tolds[case]):
                    return None
                count = count + 1
        return count

    def bare_of_blocks(self, lost):
        """The list of the places that no block left holds."""
        blocks = [unit for unit in self.layout.units if unit.startswith("block") and unit not in lost]
        held = [place for unit in blocks for one in self.layout[unit] for place in one.weights]
        return [place for place in self.layout.shape.places if place not in held]

    def is_triple(self, lost, other, value):
        """Whether any value tells the amount of a place by the units left."""
        if not isinstance(value, tuple) or len(value) != 3:
            return False
        bottom, weights, is_new = value
        if not is_whole(bottom) or bottom < 1 or not isinstance(is_new, bool) or is_new and other != self.place:
            return False
        if not isinstance(weights, dict) or not all([self.is_key(lost, key) for key in weights]):
            return False
        if not all([is_whole(weight) and weight != 0 for weight in weights.values()]):
            return False
        wanted = new_vector(self.layout, other) if is_new else old_vector(self.layout, other)
        columns = range(len(self.layout.shape.places) + 1)
        return all([self.sum_at(weights, column) == bottom * wanted.get(column, 0) for column in columns])

    def is_key(self, lost, value):
        """Whether any value is a pair of a unit left and the index of one of its answers."""
        if not isinstance(value, tuple) or len(value) != 2:
            return False
        unit, index = value
        if not isinstance(unit, str) or unit in lost or unit not in self.units:
            return False
        return is_whole_from(index, 0, len(self.vectors[unit]) - 1)

    def sum_at(self, weights, column):
        """The sum of the answers, each times its weight, at a column."""
        return sum([weight * self.vectors[unit][index].get(column, 0) for (unit, index), weight in weights.items()])


def is_case(layout, value):
    """Whether a key has the kinds of a place, a moment, a loss and a place."""
    if not isinstance(value, tuple) or len(value) != 4:
        return False
    place, moment, _, other = value
    return place in layout.shape and is_whole(moment) and other in layout.shape


def is_unsafe(layout, order, many, value, journal):
    """Whether any value is a right Unsafe of an order that fits."""
    if not isinstance(value, Unsafe) or value.place not in layout.shape:
        return False
    writes = order.writes(layout, value.place, journal)
    if not is_whole_from(value.moment, 0, len(writes)):
        return False
    written = writes[:value.moment]
    if not is_lot_of(value.lost, units_at(layout.units, written)) or len(value.lost) > many:
        return False
    if not is_pair(layout, value.one) or not is_pair(layout, value.other):
        return False
    vectors = vectors_behind(layout, value.place, journal, written)
    if not are_alike_but(layout, vectors, value.lost, value.one, value.other):
        return False
    return are_unlike(layout, value.place, value.one, value.other)


def is_pair(layout, value):
    """Whether any value is a pair of a table of the layout's shape and a change."""
    if not isinstance(value, tuple) or len(value) != 2:
        return False
    table, change = value
    return is_table_of(table, layout.shape) and is_whole(change)


def between(layout, one, other):
    """The direction, a dict from columns, from a pair of a table and a change to another one."""
    places = layout.shape.places
    amounts = {column: other[0][place] - one[0][place] for column, place in enumerate(places)}
    return {**amounts, len(places): other[1] - one[1]}


def are_alike_but(layout, vectors, lost, one, other):
    """Whether two pairs are alike in all units but the lost ones."""
    direction = between(layout, one, other)
    return all([along(row, direction) == 0 for unit in vectors if unit not in lost for row in vectors[unit]])


def are_unlike(layout, place, one, other):
    """Whether two pairs are unlike at another place, or at the place both in the old and in the new amount."""
    direction = between(layout, one, other)
    if any([along(old_vector(layout, at), direction) != 0 for at in layout.shape.places if at != place]):
        return True
    old, new = old_vector(layout, place), new_vector(layout, place)
    return along(old, direction) != 0 and along(new, direction) != 0
