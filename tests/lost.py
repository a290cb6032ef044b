"""Losses, searched in the tests through all of them, and what is right of papers about them."""

import itertools
import random

from rowvault.cuts import Every, Leads, Sizes
from rowvault.kinds import Blocks, Buckets, Cells, Pages, Stripes
from rowvault.layouts import Layout
from rowvault.losses import Backed, Covers, Help, Lacking, Rebuilt, Strength, Unbacked, Uncovered
from rowvault.shapes import Shape
from tests.helpers import TWO, is_int
from tests.papers import all_lots, is_lot, is_right_parted, is_right_told, tells_all

THREE = Shape(list("abc"), 2)
SMALL = [
    Layout(TWO), Layout(TWO, Pages(1), Buckets(1)), Layout(TWO, Blocks(Every(2)), Buckets(1)),
    Layout(TWO, Blocks(Every(1)), Pages(2)), Layout(TWO, Blocks(Every(2)), Pages(1), Buckets(1)),
    Layout(THREE, Blocks(Leads()), Stripes(3, 2)), Layout(THREE, Blocks(Every(2), "days"), Stripes(2), Pages(2)),
    Layout(Shape(["a"], 3), Blocks(Sizes(1, 2)), Cells(3), Buckets(2)), Layout(THREE, Pages(1), Buckets(1)),
    Layout(Shape(["a"], 1), Buckets(1)), Layout(Shape(["a", "b"], 3), Pages(1), Cells(6), Buckets(1)),
    Layout(TWO, Blocks(Every(1)), Stripes(2, 2), Pages(2)),
]


def some_lost(seed, many, layouts=SMALL):
    chance = random.Random(seed)
    for _ in range(many):
        layout = chance.choice(layouts)
        lost = [unit for unit in layout if chance.random() < chance.choice([0.1, 0.3, 0.6])]
        lost = lost + lost[:1]
        chance.shuffle(lost)
        yield layout, lost if chance.random() < 0.5 else tuple(lost)


def left_of(units, lost):
    return [unit for unit in units if unit not in lost]


def is_rebuilt(layout, lost, units=None):
    """Whether the units left tell all answers of the lost ones, by ranks."""
    units = layout.units if units is None else units
    return tells_all(layout, left_of(units, lost), [one for unit in lost for one in layout[unit]])


def first_lacking(layout, lost, units=None):
    """The first lost unit with an answer that is not told, and the first such index; None without one."""
    units = layout.units if units is None else units
    left = left_of(units, lost)
    for unit in units:
        for index, one in enumerate(layout[unit]):
            if unit in lost and not tells_all(layout, left, [one]):
                return unit, index
    return None


def losses_of(layout, many):
    return list(itertools.combinations(layout.units, many))


def joined(layout, other):
    return Layout(layout.shape, *layout.kinds, *other.kinds)


def right_lacking(layout, lost, value, units=None):
    units = layout.units if units is None else units
    if type(value) is not Lacking or type(value.unit) is not str or value.unit not in lost:
        return False
    if not is_int(value.index) or not 0 <= value.index < len(layout[value.unit]):
        return False
    return is_right_parted(layout, left_of(units, lost), layout[value.unit][value.index], value.parted)


def right_rebuilt(layout, lost, value, units=None):
    units = layout.units if units is None else units
    if type(value) is not Rebuilt or type(value.tolds) is not dict:
        return False
    wanted = [(unit, index) for unit in set(lost) for index in range(len(layout[unit]))]
    if len(value.tolds) != len(wanted):
        return False
    for key, paper in value.tolds.items():
        if type(key) is not tuple or key not in wanted or not is_int(key[1]):
            return False
        if not is_right_told(layout, left_of(units, lost), layout[key[0]][key[1]], paper):
            return False
    return True


def right_loss(layout, lost, value):
    return right_rebuilt(layout, lost, value) or right_lacking(layout, lost, value)


def right_rebuilts(layout, losses, value, units=None):
    return type(value) is dict and len(value) == len(losses) and all(
        lost in value and right_rebuilt(layout, lost, value[lost], units) for lost in losses)


def right_covers(layout, many, value):
    if type(value) is Covers:
        return right_rebuilts(layout, losses_of(layout, many), value.rebuilts)
    return type(value) is Uncovered and is_lot(value.lost, layout.units) and len(value.lost) == many \
        and right_lacking(layout, value.lost, value.lacking)


def right_strength(layout, value):
    if type(value) is not Strength or not is_int(value.many) or not 0 <= value.many <= len(layout):
        return False
    return type(value.covered) is Covers and right_covers(layout, value.many, value.covered) \
        and right_covers(layout, value.many + 1, Uncovered(value.lost, value.lacking))


def best_help(layout, lost, unit, prices):
    """The least sum of prices, then the fewest, then the first units left that tell a lost unit."""
    rows = [lot for lot in all_lots(left_of(layout.units, lost)) if tells_all(layout, lot, layout[unit])]
    least = min(sum(prices[one] for one in lot) for lot in rows)
    return next(lot for lot in rows if sum(prices[one] for one in lot) == least), least


def right_help(layout, lost, unit, prices, value):
    if type(value) is not Help or not is_lot(value.units, left_of(layout.units, lost)) or not is_int(value.price):
        return False
    if not tells_all(layout, left_of(layout.units, lost), layout[unit]):
        return False
    if (value.units, value.price) != best_help(layout, lost, unit, prices) or type(value.tolds) is not dict:
        return False
    return sorted(map(repr, value.tolds)) == sorted(map(repr, range(len(layout[unit])))) and all(
        is_right_told(layout, value.units, layout[unit][index], paper) for index, paper in value.tolds.items())


def first_backing(layout, many, other):
    """The fewest units of another layout that back all losses of a number; None if all do not."""
    both = joined(layout, other)
    for lot in all_lots(other.units):
        units = [unit for unit in both.units if unit in layout or unit in lot]
        if all(is_rebuilt(both, lost, units) for lost in losses_of(layout, many)):
            return lot
    return None


def right_backed(layout, many, other, value):
    both = joined(layout, other)
    if type(value) is Unbacked:
        return is_lot(value.lost, layout.units) and len(value.lost) == many and right_lacking(both, value.lost, value.lacking)
    if type(value) is not Backed or type(value.units) is not tuple or value.units != first_backing(layout, many, other):
        return False
    units = [unit for unit in both.units if unit in layout or unit in value.units]
    return right_rebuilts(both, losses_of(layout, many), value.rebuilts, units)
