"""Whether relations, and papers about spoilt units, are right; nothing is searched."""

from rowvault.asked import check_layout
from rowvault.checks import is_whole
from rowvault.images import are_answers
from rowvault.look_losses import are_rebuilts, is_rebuilt
from rowvault.look_readings import is_lot_of
from rowvault.look_told import are_weights, weight_at
from rowvault.spoils import (
    Agreeing, Broken, Finds, Hopeless, Righted, Rights, Unclear, Unfound, Unrighted, check_all_answers,
    check_some_answers, gives, lots_spoilt, units_wrong,
)
from rowvault.tables import is_table_of


def shows_relation(layout, value):
    """Whether any value is a relation between answers of the layout."""
    check_layout(layout)
    return is_relation(layout, layout.units, value)


def shows_agree(layout, answers, value):
    """Whether any value is a right Agreeing with the answers, or a right Broken."""
    check_layout(layout)
    check_some_answers(layout, answers)
    if isinstance(value, Broken):
        return is_broken(layout, list(answers), answers, value)
    if not isinstance(value, Agreeing) or not is_pair_of(layout, (value.bottom, value.table)):
        return False
    return all([gives(layout, unit, answers[unit], value.bottom, value.table) for unit in answers])


def shows_finds(layout, many, value):
    """Whether any value is a right Finds of all lots of many units, or a right Unfound."""
    check_layout(layout)
    lots = lots_spoilt(layout, many, 1)
    if isinstance(value, Unfound):
        if not is_table_of(value.one, layout.shape) or not is_table_of(value.other, layout.shape):
            return False
        return 0 < len(units_unlike(layout, (1, value.one), (1, value.other))) <= many
    return isinstance(value, Finds) and are_rebuilts(layout, layout.units, lots, value.rebuilts)


def shows_rights(layout, many, value):
    """Whether any value is a right Rights of all lots of twice many units, or a right Unrighted."""
    check_layout(layout)
    lots = lots_spoilt(layout, many, 2)
    if isinstance(value, Unrighted):
        if not are_answers(layout, value.given):
            return False
        return are_two_ways(layout, value.given, many, (1, value.one), (1, value.other))
    return isinstance(value, Rights) and are_rebuilts(layout, layout.units, lots, value.rebuilts)


def shows_righted(layout, answers, many, value):
    """Whether any value is a right Righted of the answers, a right Unclear or a right Hopeless."""
    check_layout(layout)
    check_all_answers(layout, answers)
    lots = lots_spoilt(layout, many, 1)
    if isinstance(value, Unclear):
        return are_two_ways(layout, answers, many, value.one, value.other)
    if isinstance(value, Hopeless):
        return are_cases(layout, answers, lots, None, value.cases)
    if not isinstance(value, Righted) or not is_pair_of(layout, (value.bottom, value.table)):
        return False
    if not is_lot_of(value.spoilt, layout.units) or len(value.spoilt) > many:
        return False
    if value.spoilt != units_wrong(layout, answers, value.bottom, value.table):
        return False
    return are_cases(layout, answers, lots, value.spoilt, value.cases)


def is_relation(layout, units, value):
    """Whether any value is a relation between answers of the units."""
    if not are_weights(layout, units, value):
        return False
    return all([weight_at(layout, value, place) == 0 for place in layout.shape.places])


def is_broken(layout, units, answers, value):
    """Whether any value is a right Broken of the answers of the units."""
    if not isinstance(value, Broken) or not is_relation(layout, units, value.weights):
        return False
    return sum([weight * answers[unit][index] for (unit, index), weight in value.weights.items()]) != 0


def is_pair_of(layout, value):
    """Whether any value is a pair of an integer from 1 on and a table of the layout's shape."""
    if not isinstance(value, tuple) or len(value) != 2:
        return False
    bottom, table = value
    return is_whole(bottom) and bottom >= 1 and is_table_of(table, layout.shape)


def units_unlike(layout, one, other):
    """The list of the units for which two pairs of a bottom and a table do not give the same answers."""
    return [unit for unit in layout.units if not all([is_like(ask, one, other) for ask in layout[unit]])]


def is_like(question, one, other):
    """Whether two pairs of a bottom and a table give the same answer."""
    return other[0] * question(one[1]) == one[0] * question(other[1])


def are_two_ways(layout, answers, many, one, other):
    """Whether any two values are pairs that give unlike answers, and each these of all units but a few."""
    if not is_pair_of(layout, one) or not is_pair_of(layout, other):
        return False
    if len(units_wrong(layout, answers, one[0], one[1])) > many:
        return False
    return len(units_wrong(layout, answers, other[0], other[1])) <= many and units_unlike(layout, one, other) != []


def are_cases(layout, answers, lots, spoilt, value):
    """Whether any value is a dict from just these lots to right papers: Rebuilts of those with all spoilt units."""
    if not isinstance(value, dict) or len(value) != len(lots):
        return False
    return all([lot in value and is_case(layout, answers, lot, spoilt, value[lot]) for lot in lots])


def is_case(layout, answers, lot, spoilt, value):
    """Whether any value is a right Rebuilt of a lot with all spoilt units, otherwise a right Broken of the others."""
    if spoilt is not None and all([unit in lot for unit in spoilt]):
        return is_rebuilt(layout, layout.units, lot, value)
    return is_broken(layout, [unit for unit in layout.units if unit not in lot], answers, value)
