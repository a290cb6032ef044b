"""Whether papers about readings, partings and their prices are right; nothing is searched."""

from rowvault.asked import asked_of, check_layout, check_question
from rowvault.checks import is_whole
from rowvault.look_told import shows_parted, shows_told
from rowvault.parts import Part
from rowvault.prices import prices_of, sum_of
from rowvault.readings import (
    Behind, Cheapest, Cutoff, Enough, Needless, Parting, Reading, Spare, Wanting, check_many, losses_of, others_of,
    without,
)
from rowvault.searches import counted_of, matter_at_most


def shows_reading(layout, units, question, value, bare=None):
    """Whether any value is a right Reading, Wanting or Needless of the units."""
    some, none = asked_of(layout, units, question, bare)
    if isinstance(value, Wanting):
        return shows_parted(layout, some, question, value.parted, none)
    if isinstance(value, Needless):
        held = value.unit in some
        return held and shows_told(layout, without(some, value.unit), question, value.told, none)
    if not isinstance(value, Reading) or value.units != tuple(some):
        return False
    if not shows_told(layout, some, question, value.told, none):
        return False
    if not isinstance(value.parteds, tuple) or len(value.parteds) != len(some):
        return False
    others = [without(some, unit) for unit in some]
    return all([shows_parted(layout, rest, question, one, none) for rest, one in zip(others, value.parteds)])


def shows_parting(layout, units, question, value, bare=None):
    """Whether any value is a right Parting, Enough or Spare of the units."""
    some, none = asked_of(layout, units, question, bare)
    others = others_of(layout, some)
    if isinstance(value, Enough):
        return shows_told(layout, others, question, value.told, none)
    if isinstance(value, Spare):
        held = value.unit in some
        return held and shows_parted(layout, [*others, value.unit], question, value.parted, none)
    if not isinstance(value, Parting) or value.units != tuple(some):
        return False
    if not shows_parted(layout, others, question, value.parted, none):
        return False
    if not isinstance(value.tolds, tuple) or len(value.tolds) != len(some):
        return False
    return all([shows_told(layout, [*others, unit], question, one, none) for unit, one in zip(some, value.tolds)])


def shows_cheapest(layout, question, price, value, bare=None, units=None):
    """Whether any value is a right Cheapest of the units that count."""
    some, none = counted_of(layout, question, bare, units)
    prices = prices_of(matter_at_most(layout, some, none), price)
    return Look(layout, question, prices, some, none).is_cheapest(value)


def shows_behind(layout, question, price, many, value):
    """Whether any value is a right Behind or Cutoff of all losses of at most many units."""
    check_layout(layout)
    check_question(layout, question)
    check_many(many)
    none = Part(layout.shape)
    prices = prices_of(matter_at_most(layout, layout.units, none), price)
    losses = losses_of(list(prices), many)
    if isinstance(value, Cutoff):
        held = value.lost in losses
        return held and shows_parted(layout, others_of(layout, value.lost), question, value.parted)
    if not isinstance(value, Behind) or value.lost not in losses:
        return False
    if not is_behind_lots(layout, question, prices, losses, value):
        return False
    left = {unit: prices[unit] for unit in prices if unit not in value.lost}
    look = Look(layout, question, left, others_of(layout, value.lost), none)
    return look.is_cheapest(value.cheapest) and value.cheapest.price == value.price


def is_behind_lots(layout, question, prices, losses, value):
    """Whether the price is an integer, and the lots tell for each loss one that is left and costs no more."""
    if not is_whole(value.price) or not isinstance(value.lots, dict) or len(value.lots) != len(losses):
        return False
    for lost in losses:
        if lost not in value.lots:
            return False
        left = [unit for unit in prices if unit not in lost]
        pair = value.lots[lost]
        if not isinstance(pair, tuple) or len(pair) != 2 or not is_lot_of(pair[0], left):
            return False
        if sum_of(prices, pair[0]) > value.price or not shows_told(layout, pair[0], question, pair[1]):
            return False
    return True


def is_lot_of(value, units):
    """Whether any value is a tuple of some of the units, in order, each once."""
    return isinstance(value, tuple) and list(value) == [unit for unit in units if unit in value]


class Look:
    """What a Cheapest is looked at by: the prices of the units that matter, and all units that count."""

    def __init__(self, layout, question, prices, counted, bare):
        self.layout = layout
        self.question = question
        self.prices = prices
        self.counted = counted
        self.bared = bare

    def is_cheapest(self, value):
        """Whether any value is a right Cheapest."""
        if not isinstance(value, Cheapest) or not is_lot_of(value.units, list(self.prices)):
            return False
        if not is_whole(value.price) or value.price != sum_of(self.prices, value.units):
            return False
        held = shows_told(self.layout, value.units, self.question, value.told, self.bared)
        return held and self.is_tree(value.tree, [], value.price)

    def is_tree(self, value, chosen, price):
        """Whether any value is a tree for some chosen units."""
        if sum_of(self.prices, chosen) >= price:
            return value is None
        if not isinstance(value, tuple) or len(value) != 3:
            return False
        lot, parted, branches = value
        left = [unit for unit in self.prices if unit not in chosen]
        if not is_lot_of(lot, left) or not isinstance(branches, tuple) or len(branches) != len(lot):
            return False
        others = [unit for unit in self.counted if unit not in lot]
        if not shows_parted(self.layout, others, self.question, parted, self.bared):
            return False
        return all([self.is_tree(branch, [*chosen, unit], price) for unit, branch in zip(lot, branches)])
