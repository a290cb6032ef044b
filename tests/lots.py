"""Readings, partings and prices, searched in the tests through all lots."""

import itertools
import random

from rowvault.cuts import Every, Leads, Sizes
from rowvault.kinds import Blocks, Buckets, Cells, Pages, Stripes
from rowvault.layouts import Layout
from rowvault.parts import Part
from rowvault.questions import Question
from rowvault.readings import (
    Behind, Cheapest, Cutoff, Enough, Needless, Parting, Reading, Spare, Wanting,
)
from rowvault.shapes import Shape
from tests.helpers import TWO, is_int
from tests.papers import all_lots, is_lot, is_right_parted, is_right_told, open_places, tells_all

THREE = Shape(list("abc"), 2)
SMALL = [
    Layout(TWO), Layout(TWO, Pages(1), Buckets(1)), Layout(TWO, Blocks(Every(2)), Buckets(1)),
    Layout(TWO, Blocks(Every(1)), Pages(2)), Layout(TWO, Blocks(Every(2)), Pages(1), Buckets(1)),
    Layout(THREE, Blocks(Leads()), Stripes(3, 2)), Layout(THREE, Blocks(Every(2), "days"), Stripes(2), Pages(2)),
    Layout(Shape(["a"], 3), Blocks(Sizes(1, 2)), Cells(3), Buckets(2)), Layout(THREE, Pages(1), Buckets(1)),
    Layout(Shape(["a"], 1), Buckets(1)), Layout(Shape(["a", "b"], 3), Pages(1), Cells(6), Buckets(1)),
]


def some_asked(seed, many, layouts=SMALL):
    """Layouts, questions, bare places (or None) and units that count (or None)."""
    chance = random.Random(seed)
    for _ in range(many):
        layout = chance.choice(layouts)
        shape = layout.shape
        bare = chance.choice([None, None, Part(shape, *[place for place in shape if chance.random() < 0.3])])
        units = None
        if chance.random() < 0.4:
            units = [unit for unit in layout if chance.random() < 0.8]
            units = units + units[:1]
            chance.shuffle(units)
        weights = {place: chance.choice([0, 0, 1, 1, -2]) for place in shape}
        if chance.random() < 0.7 and len(layout):
            total = Question(shape, {})
            for _, one in layout.answers([chance.choice(layout.units) for _ in range(2)]):
                total = total + chance.randint(-1, 2) * one
            weights = dict(total.weights)
        if chance.random() < 0.1:
            weights = {place: 1 for place in (bare or ())}
        yield layout, Question(shape, weights), bare, units


def counted(layout, units):
    return [unit for unit in layout.units if units is None or unit in units]


def mattering(layout, units, bare):
    places = open_places(layout.shape, bare)
    return [unit for unit in counted(layout, units) if any(one[place] for one in layout[unit] for place in places)]


class Tried:
    """All lots of the units that count, and whether they tell a question."""

    def __init__(self, layout, question, bare, units):
        self.layout, self.question, self.bare = layout, question, bare
        self.units = counted(layout, units)
        self.lots = all_lots(self.units)
        self.told = {}
        for lot in self.lots:
            held = any(self.told[lot[:k] + lot[k + 1:]] for k in range(len(lot)))
            self.told[lot] = held or tells_all(layout, lot, [question], bare)

    def others(self, lot):
        return tuple(unit for unit in self.units if unit not in lot)

    def readings(self):
        return [lot for lot in self.lots
                if self.told[lot] and not any(self.told[lot[:k] + lot[k + 1:]] for k in range(len(lot)))]

    def partings(self):
        return [lot for lot in self.lots if not self.told[self.others(lot)]
                and all(self.told[self.others(lot[:k] + lot[k + 1:])] for k in range(len(lot)))]

    def musts(self):
        rows = self.readings()
        return tuple(unit for unit in self.units if all(unit in lot for lot in rows)) if rows else None

    def cheapest(self, prices, lost=()):
        """The first reading of the least price without lost units, and the price; None without one."""
        rows = [lot for lot in self.readings() if not set(lot) & set(lost)]
        if not rows:
            return None
        least = min(sum(prices[unit] for unit in lot) for lot in rows)
        return next(lot for lot in rows if sum(prices[unit] for unit in lot) == least), least


def prices_for(chance, layout):
    """Prices of all units: equal ones, with many 0, great ones."""
    values = chance.choice([[1], [0, 1], [0, 0, 0, 5], [1, 2, 3], [10 ** 9, 10 ** 9 - 1, 0], [7, 11, 2 ** 29], [0]])
    return {unit: chance.choice(values) for unit in layout}


def right_reading(layout, units, question, value, bare=None):
    """Whether a value is a right Reading, Wanting or Needless, as the document tells it."""
    lot = [unit for unit in layout.units if unit in units]
    if type(value) is Wanting:
        return is_right_parted(layout, lot, question, value.parted, bare)
    if type(value) is Needless:
        rest = [unit for unit in lot if unit != value.unit]
        return type(value.unit) is str and len(rest) < len(lot) and is_right_told(layout, rest, question, value.told, bare)
    if type(value) is not Reading or type(value.units) is not tuple or list(value.units) != lot:
        return False
    if not is_right_told(layout, lot, question, value.told, bare) or type(value.parteds) is not tuple:
        return False
    return len(value.parteds) == len(lot) and all(
        is_right_parted(layout, [other for other in lot if other != unit], question, paper, bare)
        for unit, paper in zip(lot, value.parteds))


def right_parting(layout, units, question, value, bare=None):
    lot = [unit for unit in layout.units if unit in units]
    others = [unit for unit in layout.units if unit not in units]
    if type(value) is Enough:
        return is_right_told(layout, others, question, value.told, bare)
    if type(value) is Spare:
        held = type(value.unit) is str and value.unit in lot
        return held and is_right_parted(layout, others + [value.unit], question, value.parted, bare)
    if type(value) is not Parting or type(value.units) is not tuple or list(value.units) != lot:
        return False
    if not is_right_parted(layout, others, question, value.parted, bare) or type(value.tolds) is not tuple:
        return False
    return len(value.tolds) == len(lot) and all(
        is_right_told(layout, others + [unit], question, paper, bare) for unit, paper in zip(lot, value.tolds))


def right_tree(layout, question, prices, units, bare, tree, chosen, price):
    matter = mattering(layout, units, bare)
    if sum(prices[unit] for unit in chosen) >= price:
        return tree is None
    if type(tree) is not tuple or len(tree) != 3 or not is_lot(tree[0], [u for u in matter if u not in chosen]):
        return False
    lot, parted, branches = tree
    rest = [unit for unit in counted(layout, units) if unit not in lot]
    if not is_right_parted(layout, rest, question, parted, bare):
        return False
    if type(branches) is not tuple or len(branches) != len(lot):
        return False
    return all(right_tree(layout, question, prices, units, bare, branch, chosen + [unit], price)
               for unit, branch in zip(lot, branches))


def right_cheapest(layout, question, prices, value, bare=None, units=None):
    if type(value) is not Cheapest or not is_lot(value.units, mattering(layout, units, bare)) or not is_int(value.price):
        return False
    if value.price != sum(prices[unit] for unit in value.units):
        return False
    return is_right_told(layout, value.units, question, value.told, bare) and right_tree(
        layout, question, prices, units, bare, value.tree, [], value.price)


def losses_up_to(layout, many):
    return [lost for size in range(many + 1) for lost in itertools.combinations(mattering(layout, None, None), size)]


def right_behind(layout, question, prices, many, value):
    losses = losses_up_to(layout, many)
    if type(value) is Cutoff:
        if type(value.lost) is not tuple or value.lost not in losses:
            return False
        return is_right_parted(layout, [unit for unit in layout if unit not in value.lost], question, value.parted)
    if type(value) is not Behind or type(value.lost) is not tuple or value.lost not in losses:
        return False
    if not is_int(value.price) or type(value.lots) is not dict or len(value.lots) != len(losses):
        return False
    for lost in losses:
        pair = value.lots.get(lost)
        matter = [unit for unit in mattering(layout, None, None) if unit not in lost]
        if type(pair) is not tuple or len(pair) != 2 or not is_lot(pair[0], matter):
            return False
        if sum(prices[unit] for unit in pair[0]) > value.price or not is_right_told(layout, pair[0], question, pair[1]):
            return False
    left = [unit for unit in layout if unit not in value.lost]
    return right_cheapest(layout, question, prices, value.cheapest, None, left) and value.cheapest.price == value.price
