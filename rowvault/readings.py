"""Which units must be read for a question, and what it costs, also behind a loss."""

from rowvault.asked import asked_of, check_layout, check_question
from rowvault.bases import Bases
from rowvault.checks import is_whole_from
from rowvault.errors import BadCount, Untold
from rowvault.lots import choices, vectors_for
from rowvault.prices import by_price, first_left, prices_of, sum_of
from rowvault.searches import Search, Tree, counted_of
from rowvault.spans import vector_but
from rowvault.told import Teller

# The greatest loss that is looked at.
MOST_LOST = 3


class Reading:
    """A paper: the lot, a Told by it, and a Parted of the lot without each of its units."""

    def __init__(self, units, told, parteds):
        self.units = units
        self.told = told
        self.parteds = parteds

    def __eq__(self, other):
        return (isinstance(other, Reading) and self.units == other.units and self.told == other.told
                and self.parteds == other.parteds)


class Wanting:
    """A false paper: a Parted of the lot, which is not enough."""

    def __init__(self, parted):
        self.parted = parted

    def __bool__(self):
        return False

    def __eq__(self, other):
        return isinstance(other, Wanting) and self.parted == other.parted


class Needless:
    """A false paper: a unit without which the lot is enough, and a Told by the others."""

    def __init__(self, unit, told):
        self.unit = unit
        self.told = told

    def __bool__(self):
        return False

    def __eq__(self, other):
        return isinstance(other, Needless) and self.unit == other.unit and self.told == other.told


class Parting:
    """A paper: the lot, a Parted of all others, and a Told by these and each one of its units."""

    def __init__(self, units, parted, tolds):
        self.units = units
        self.parted = parted
        self.tolds = tolds

    def __eq__(self, other):
        return (isinstance(other, Parting) and self.units == other.units and self.parted == other.parted
                and self.tolds == other.tolds)


class Enough:
    """A false paper: a Told by all other units."""

    def __init__(self, told):
        self.told = told

    def __bool__(self):
        return False

    def __eq__(self, other):
        return isinstance(other, Enough) and self.told == other.told


class Spare:
    """A false paper: a unit with which the others are not enough either, and a Parted of these."""

    def __init__(self, unit, parted):
        self.unit = unit
        self.parted = parted

    def __bool__(self):
        return False

    def __eq__(self, other):
        return isinstance(other, Spare) and self.unit == other.unit and self.parted == other.parted


class Cheapest:
    """A paper: a reading of the least price, this price, a Told, and a tree: no lot costs less."""

    def __init__(self, units, price, told, tree):
        self.units = units
        self.price = price
        self.told = told
        self.tree = tree

    def __eq__(self, other):
        return (isinstance(other, Cheapest) and self.units == other.units and self.price == other.price
                and self.told == other.told and self.tree == other.tree)


class Behind:
    """A paper: the greatest least price behind a loss, this loss, and a lot for each loss."""

    def __init__(self, price, lost, cheapest, lots):
        self.price = price
        self.lost = lost
        self.cheapest = cheapest
        self.lots = lots

    def __eq__(self, other):
        return (isinstance(other, Behind) and self.price == other.price and self.lost == other.lost
                and self.cheapest == other.cheapest and self.lots == other.lots)


class Cutoff:
    """A false paper: a loss behind which no lot is enough, and a Parted of the units left."""

    def __init__(self, lost, parted):
        self.lost = lost
        self.parted = parted

    def __bool__(self):
        return False

    def __eq__(self, other):
        return isinstance(other, Cutoff) and self.lost == other.lost and self.parted == other.parted


def musts(layout, question, bare=None, units=None):
    """The tuple of the units that are in each reading."""
    some, none = counted_of(layout, question, bare, units)
    bases = Bases([vectors_for(layout, unit, none) for unit in some], [vector_but(question, none)], len(layout.shape))
    column = bases.wanted_columns()[0]
    near = bases.near(column)
    is_told, needed = bases.look(column, near, [True for _ in some])
    if not is_told:
        raise Untold(Teller(layout, some, none).paper_on(question))
    # What one lot that is enough does not need is in no way a must.
    lots = [[other != at for other in range(len(some))] for at in needed]
    held = [at for at, lot in zip(needed, lots) if not bases.look(column, near, lot)[0]]
    return tuple([unit for at, unit in enumerate(some) if at in held])


def readings(layout, question, bare=None, units=None):
    """Yield all readings, in order."""
    search = search_of(layout, question, bare, units)
    for mask in search.lots.least_enough(search.lots.full()):
        yield search.units_of(mask)


def partings(layout, question, bare=None, units=None):
    """Yield all partings, in order."""
    search = search_of(layout, question, bare, units)
    for mask in search.lots.least_parting(search.lots.full()):
        yield search.units_of(mask)


def reading_of(layout, units, question, bare=None):
    """A Reading of the units, a Wanting or a Needless."""
    some, none = asked_of(layout, units, question, bare)
    paper = Teller(layout, some, none).paper_on(question)
    if not paper:
        return Wanting(paper)
    parteds = []
    for unit in some:
        other = Teller(layout, without(some, unit), none).paper_on(question)
        if other:
            return Needless(unit, other)
        parteds.append(other)
    return Reading(tuple(some), paper, tuple(parteds))


def parting_of(layout, units, question, bare=None):
    """A Parting of the units, an Enough or a Spare."""
    some, none = asked_of(layout, units, question, bare)
    paper = Teller(layout, others_of(layout, some), none).paper_on(question)
    if paper:
        return Enough(paper)
    tolds = []
    for unit in some:
        other = Teller(layout, others_of(layout, without(some, unit)), none).paper_on(question)
        if not other:
            return Spare(unit, other)
        tolds.append(other)
    return Parting(tuple(some), paper, tuple(tolds))


def least_reading(layout, question, price, bare=None, units=None):
    """A Cheapest: the first reading of the least price."""
    search = search_of(layout, question, bare, units)
    search.check_told()
    prices = prices_of(search.units, price)
    return cheapest_paper(search, prices, by_price(prices, all_readings(search))[0], ())


def least_behind(layout, question, price, many):
    """A Behind of all losses of at most many units that matter, or a Cutoff."""
    check_layout(layout)
    check_question(layout, question)
    check_many(many)
    search = search_of(layout, question, None, None)
    search.check_told()
    prices = prices_of(search.units, price)
    lots = by_price(prices, all_readings(search))
    least = {}
    for lost in losses_of(search.units, many):
        lot = first_left(lots, lost)
        if lot is None:
            return Cutoff(lost, search.paper_but(lost))
        least[lost] = lot
    return behind_of(search, prices, least)


def search_of(layout, question, bare, units):
    """A search through the lots of the units that count."""
    some, none = counted_of(layout, question, bare, units)
    return Search(layout, some, question, none)


def without(units, unit):
    """The list of the units but one."""
    return [other for other in units if other != unit]


def others_of(layout, units):
    """The list of the other units of a layout, in order."""
    return [unit for unit in layout.units if unit not in units]


def check_many(many):
    """Raise BadCount unless it is a number of units that may be lost."""
    if not is_whole_from(many, 0, MOST_LOST):
        raise BadCount(many)


def losses_of(units, many):
    """The list of the losses of at most many of the units, in the order of lots."""
    rows = [row for size in range(min(int(many), len(units)) + 1) for row in choices(len(units), size)]
    return [tuple([units[index] for index in row]) for row in rows]


def all_readings(search):
    """The list of all readings, in order."""
    return [search.units_of(mask) for mask in search.lots.least_enough(search.lots.full())]


def cheapest_paper(search, prices, lot, lost):
    """The Cheapest of the units that are left, the lot being the first reading of the least price."""
    price = sum_of(prices, lot)
    left = search.lots.full() ^ search.mask_of(lost)
    tree = Tree(search, prices, left, price)
    return Cheapest(lot, price, search.paper_by(lot), tree.grown([]))


def behind_of(search, prices, least):
    """The Behind, by the first reading of the least price behind each loss."""
    costs = {lost: sum_of(prices, lot) for lost, lot in least.items()}
    price = max([int(cost) for cost in costs.values()])
    worst = [lost for lost, cost in costs.items() if cost == price][0]
    papers = {lot: search.paper_by(lot) for lot in least.values()}
    lots = {lost: (lot, papers[lot]) for lost, lot in least.items()}
    return Behind(price, worst, cheapest_paper(search, prices, least[worst], worst), lots)
