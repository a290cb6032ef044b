"""Whether papers about losses are right; nothing is searched."""

from math import comb

from rowvault.asked import bare_part, check_layout
from rowvault.checks import is_whole_from
from rowvault.layouts import told_units
from rowvault.look_readings import is_lot_of
from rowvault.look_told import is_answer_key, shows_parted, shows_told
from rowvault.losses import (
    Backed, Covers, Help, Lacking, Rebuilder, Rebuilt, Strength, Unbacked, Uncovered, check_losses, check_many,
    helpers_of, joined, losses_of, more_lots, units_but,
)
from rowvault.prices import prices_of, sum_of
from rowvault.searches import lots_of


def shows_rebuilt(layout, lost, value):
    """Whether any value is a right Rebuilt of the loss, or a right Lacking."""
    check_layout(layout)
    gone = told_units(layout, lost)
    return is_rebuilt(layout, layout.units, gone, value) or is_lacking(layout, layout.units, gone, value)


def shows_covers(layout, many, value):
    """Whether any value is a right Covers of all losses of a number, or a right Uncovered."""
    check_layout(layout)
    check_many(layout, many)
    check_losses(comb(len(layout.units), many))
    if isinstance(value, Uncovered):
        return is_loss_of(layout, many, value.lost) and is_lacking(layout, layout.units, value.lost, value.lacking)
    return is_covers(layout, many, value)


def shows_strength(layout, value):
    """Whether any value is a right Strength of the layout."""
    check_layout(layout)
    if not isinstance(value, Strength) or not is_whole_from(value.many, 0, len(layout.units)):
        return False
    check_losses(comb(len(layout.units), value.many))
    if not is_covers(layout, value.many, value.covered) or not is_loss_of(layout, value.many + 1, value.lost):
        return False
    return is_lacking(layout, layout.units, value.lost, value.lacking)


def shows_help(layout, lost, unit, price, value):
    """Whether any value is a right Help of a lost unit."""
    left = helpers_of(layout, lost, unit)
    prices = prices_of(left, price)
    if not isinstance(value, Help) or not is_lot_of(value.units, left):
        return False
    cost = sum_of(prices, value.units)
    if not is_whole_from(value.price, cost, cost) or not are_unit_tolds(layout, value.units, unit, value.tolds):
        return False
    lots = lots_of(layout, left, layout[unit], bare_part(layout, None))
    for mask in lots.least_enough(lots.full()):
        units = tuple([left[index] for index in lots.indexes_of(mask)])
        other = sum_of(prices, units)
        # No lot that is enough and holds this one comes ahead of it.
        if other < cost or other == cost and is_ahead(left, units, value.units):
            return False
    return True


def shows_backed(layout, many, other, value):
    """Whether any value is a right Backed of all losses of a number, or a right Unbacked."""
    both = joined(layout, many, other)
    losses = losses_of(layout.units, many)
    if isinstance(value, Unbacked):
        held = is_loss_of(layout, many, value.lost)
        return held and is_lacking(both, both.units, value.lost, value.lacking)
    if not isinstance(value, Backed) or not is_lot_of(value.units, other.units):
        return False
    units = [unit for unit in both.units if unit in layout or unit in value.units]
    if not are_rebuilts(both, units, losses, value.rebuilts):
        return False
    rebuilder = Rebuilder(both, both.units)
    for lot in more_lots(other.units):
        if lot == value.units:
            return True
        if rebuilder.rebuilds(losses, units_but(other.units, lot)):
            return False
    return True


def is_ahead(units, one, other):
    """Whether a lot of the units stands ahead of another one, by number and order."""
    if len(one) != len(other):
        return len(one) < len(other)
    return [unit in one for unit in units] > [unit in other for unit in units]


def is_loss_of(layout, many, value):
    """Whether any value is a tuple of so many units of the layout, in order."""
    return is_lot_of(value, layout.units) and len(value) == many


def is_lacking(layout, units, lost, value):
    """Whether any value is a right Lacking of the loss of some of the units."""
    if not isinstance(value, Lacking) or value.unit not in lost:
        return False
    if not is_whole_from(value.index, 0, len(layout[value.unit]) - 1):
        return False
    return shows_parted(layout, units_but(units, lost), layout[value.unit][value.index], value.parted)


def is_rebuilt(layout, units, lost, value):
    """Whether any value is a right Rebuilt of the loss of some of the units."""
    if not isinstance(value, Rebuilt):
        return False
    count = sum([len(layout[unit]) for unit in lost])
    if not isinstance(value.tolds, dict) or len(value.tolds) != count:
        return False
    left = units_but(units, lost)
    return all([is_told_answer(layout, left, lost, key, paper) for key, paper in value.tolds.items()])


def is_told_answer(layout, left, lost, key, paper):
    """Whether any key is that of an answer of a lost unit, and any paper a right Told of it."""
    if not is_answer_key(layout, lost, key):
        return False
    unit, index = key
    return shows_told(layout, left, layout[unit][index], paper)


def are_rebuilts(layout, units, losses, value):
    """Whether any value is a dict from just these losses of some of the units to right Rebuilts."""
    if not isinstance(value, dict) or len(value) != len(losses):
        return False
    return all([lost in value and is_rebuilt(layout, units, lost, value[lost]) for lost in losses])


def is_covers(layout, many, value):
    """Whether any value is a right Covers of all losses of a number."""
    held = isinstance(value, Covers)
    return held and are_rebuilts(layout, layout.units, losses_of(layout.units, many), value.rebuilts)


def are_unit_tolds(layout, units, unit, value):
    """Whether any value is a dict from the indexes of a unit's answers to right Tolds by the units."""
    if not isinstance(value, dict) or len(value) != len(layout[unit]):
        return False
    if not all([is_whole_from(index, 0, len(layout[unit]) - 1) for index in value]):
        return False
    return all([shows_told(layout, units, layout[unit][index], paper) for index, paper in value.items()])
