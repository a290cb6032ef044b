"""Searches through all lots of the units that matter for a question."""

from rowvault.asked import bare_part, check_layout, check_question
from rowvault.errors import TooMany, Untold
from rowvault.layouts import told_units
from rowvault.lots import Lots, matter, vectors_for
from rowvault.prices import sum_of
from rowvault.spans import vector_but
from rowvault.told import Teller

# The most units that may matter.
MOST = 12


def counted_of(layout, question, bare, units):
    """The list of the units that count, None standing for all, and the bare part."""
    check_layout(layout)
    some = told_units(layout, layout.units if units is None else units)
    check_question(layout, question)
    return some, bare_part(layout, bare)


def matter_at_most(layout, units, bare):
    """The tuple of the units that matter; raise TooMany if there are too many to search."""
    some = matter(layout, units, bare)
    if len(some) > MOST:
        raise TooMany("units", MOST)
    return some


def lots_of(layout, units, questions, bare):
    """Which lots of the units tell all of some questions."""
    groups = [vectors_for(layout, unit, bare) for unit in units]
    return Lots(groups, [vector_but(question, bare) for question in questions], len(layout.shape))


def telling_lots(layout, units, questions, bare):
    """The list of the lots that tell all of some questions, but not without any one of their units, in order."""
    lots = lots_of(layout, units, questions, bare)
    return [tuple([units[index] for index in lots.indexes_of(mask)]) for mask in lots.least_enough(lots.full())]


class Search:
    """Which lots of the units that count tell a question."""

    def __init__(self, layout, counted, question, bare):
        self.layout = layout
        self.counted = tuple(counted)
        self.question = question
        self.bared = bare
        self.units = matter_at_most(layout, counted, bare)
        self.lots = lots_of(layout, self.units, [question], bare)

    def units_of(self, mask):
        """The tuple of the units of a lot."""
        return tuple([self.units[index] for index in self.lots.indexes_of(mask)])

    def mask_of(self, units):
        """The lot of some units that matter."""
        return self.lots.mask_of([index for index, unit in enumerate(self.units) if unit in units])

    def paper_by(self, units):
        """A Told of the question by some units in order, or a Parted."""
        return Teller(self.layout, units, self.bared).paper_on(self.question)

    def paper_but(self, units):
        """A Told of the question by the units that count and are none of these, or a Parted."""
        return self.paper_by([unit for unit in self.counted if unit not in units])

    def check_told(self):
        """Raise Untold unless all units that count tell the question."""
        if not self.lots.is_enough(self.lots.full()):
            raise Untold(self.paper_by(self.counted))


class Tree:
    """What is needed to show that no lot that is left is enough and costs less than a limit."""

    def __init__(self, search, prices, left, limit):
        self._search = search
        self._lost = [unit for unit in search.units if search.mask_of([unit]) & left == 0]
        self._lots = [search.units_of(mask) for mask in search.lots.least_parting(left)]
        self._prices = prices
        self._limit = limit
        self._parteds = {}

    def grown(self, chosen):
        """The tree for some chosen units."""
        if sum_of(self._prices, chosen) >= self._limit:
            return None
        lot = self.best_for(chosen)
        branches = [self.grown([*chosen, unit]) for unit in lot]
        return lot, self.parted_of(lot), tuple(branches)

    def best_for(self, chosen):
        """The first lot without chosen units that leaves the fewest branches open."""
        rest = self._limit - sum_of(self._prices, chosen)
        best, fewest = None, -1
        for lot in self._lots:
            if any([unit in chosen for unit in lot]):
                continue
            many = len([unit for unit in lot if self._prices[unit] < rest])
            if best is None or many < fewest:
                best, fewest = lot, many
        return best

    def parted_of(self, lot):
        """A Parted of all units that are in no lot; most lots stand in no tree, so it is made when it is wanted."""
        if lot not in self._parteds:
            self._parteds[lot] = self._search.paper_but([*lot, *self._lost])
        return self._parteds[lot]
