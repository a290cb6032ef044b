"""Which losses of units the units left rebuild, and with which help."""

from math import comb

from rowvault.asked import bare_part, check_layout
from rowvault.checks import is_whole_from
from rowvault.errors import BadCount, BadLayout, BadUnit, TooMany, Untold
from rowvault.layouts import Layout, told_units
from rowvault.lots import choices
from rowvault.prices import by_price, prices_of, sum_of
from rowvault.searches import matter_at_most, telling_lots
from rowvault.ties import Ties
from rowvault.told import Teller

MOST_LOSSES = 2000


class Rebuilt:
    """A paper: for each answer of each lost unit a Told by the units left."""

    def __init__(self, tolds):
        self.tolds = tolds

    def __eq__(self, other):
        return isinstance(other, Rebuilt) and self.tolds == other.tolds


class Lacking:
    """A false paper: a lost unit, the index of an answer, and a Parted of the units left and this answer."""

    def __init__(self, unit, index, parted):
        self.unit = unit
        self.index = index
        self.parted = parted

    def __bool__(self):
        return False

    def __eq__(self, other):
        return (isinstance(other, Lacking) and self.unit == other.unit and self.index == other.index
                and self.parted == other.parted)


class Covers:
    """A paper: a Rebuilt for each loss of a number."""

    def __init__(self, rebuilts):
        self.rebuilts = rebuilts

    def __eq__(self, other):
        return isinstance(other, Covers) and self.rebuilts == other.rebuilts


class Uncovered:
    """A false paper: a loss that is not rebuilt, and its Lacking."""

    def __init__(self, lost, lacking):
        self.lost = lost
        self.lacking = lacking

    def __bool__(self):
        return False

    def __eq__(self, other):
        return isinstance(other, Uncovered) and self.lost == other.lost and self.lacking == other.lacking


class Strength:
    """A paper: the greatest number of which all losses are rebuilt, and why it is no greater."""

    def __init__(self, many, covered, lost, lacking):
        self.many = many
        self.covered = covered
        self.lost = lost
        self.lacking = lacking

    def __eq__(self, other):
        return (isinstance(other, Strength) and self.many == other.many and self.covered == other.covered
                and self.lost == other.lost and self.lacking == other.lacking)


class Help:
    """A paper: the cheapest units that tell a lost one, their price, and a Told for each of its answers."""

    def __init__(self, units, price, tolds):
        self.units = units
        self.price = price
        self.tolds = tolds

    def __eq__(self, other):
        return (isinstance(other, Help) and self.units == other.units and self.price == other.price
                and self.tolds == other.tolds)


class Backed:
    """A paper: the fewest units of another layout that back all losses of a number, and their Rebuilts."""

    def __init__(self, units, rebuilts):
        self.units = units
        self.rebuilts = rebuilts

    def __eq__(self, other):
        return isinstance(other, Backed) and self.units == other.units and self.rebuilts == other.rebuilts


class Unbacked:
    """A false paper: a loss that is not rebuilt even with all units of another layout, and its Lacking."""

    def __init__(self, lost, lacking):
        self.lost = lost
        self.lacking = lacking

    def __bool__(self):
        return False

    def __eq__(self, other):
        return isinstance(other, Unbacked) and self.lost == other.lost and self.lacking == other.lacking


def units_left(layout, lost):
    """The tuple of the units that are not lost."""
    check_layout(layout)
    gone = told_units(layout, lost)
    return units_but(layout.units, gone)


def rebuilt(layout, lost):
    """A Rebuilt of the loss, or a Lacking."""
    check_layout(layout)
    gone = told_units(layout, lost)
    return Rebuilder(layout, layout.units).loss_paper(gone)


def covers(layout, many):
    """A Covers of all losses of a number, or an Uncovered."""
    check_layout(layout)
    check_many(layout, many)
    check_losses(comb(len(layout.units), many))
    return covers_by(Rebuilder(layout, layout.units), layout.units, many)


def strength(layout):
    """The Strength of a layout."""
    check_layout(layout)
    if not any([bool(answer) for key, answer in layout.answers()]):
        raise Untold(None)
    rebuilder = Rebuilder(layout, layout.units)
    many = 0
    paper = covers_by(rebuilder, layout.units, many)
    while True:
        check_losses(comb(len(layout.units), many + 1))
        more = covers_by(rebuilder, layout.units, many + 1)
        if not more:
            return Strength(many, paper, more.lost, more.lacking)
        paper = more
        many = many + 1


def least_help(layout, lost, unit, price):
    """A Help of a lost unit."""
    left = helpers_of(layout, lost, unit)
    rebuilder = Rebuilder(layout, [other for other in layout.units if other in left or other == unit])
    paper = rebuilder.loss_paper([unit])
    if not paper:
        raise Untold(paper)
    prices = prices_of(left, price)
    none = bare_part(layout, None)
    units = by_price(prices, telling_lots(layout, left, layout[unit], none))[0]
    teller = Teller(layout, units, none)
    tolds = {index: teller.paper_on(one) for index, one in enumerate(layout[unit])}
    return Help(units, sum_of(prices, units), tolds)


def fewest_more(layout, many, other):
    """A Backed of all losses of a number by units of another layout, or an Unbacked."""
    both = joined(layout, many, other)
    rebuilder = Rebuilder(both, both.units)
    losses = losses_of(layout.units, many)
    for lost in losses:
        if not rebuilder.rebuilds([lost]):
            return Unbacked(lost, rebuilder.loss_paper(lost))
    more = first_backing(rebuilder, losses, other.units)
    backed = Rebuilder(both, [unit for unit in both.units if unit in layout or unit in more])
    return Backed(more, {lost: backed.loss_paper(lost) for lost in losses})


class Rebuilder:
    """What some units in order tell of one another; each loss leaves the others of them."""

    def __init__(self, layout, units):
        self._layout = layout
        self._units = units
        self._found = Ties(layout, units)

    def rebuilds(self, losses, absent=()):
        """Whether some losses of units in order are all rebuilt, also without some absent units."""
        for lost in losses:
            tolds = self._found.tolds_of([*lost, *absent])
            if len([key for key in tolds if key[0] in lost]) < sum([len(self._layout[unit]) for unit in lost]):
                return False
        return True

    def loss_paper(self, lost):
        """A Rebuilt of the loss of some units in order, or a Lacking."""
        tolds = self._found.tolds_of(lost)
        for unit in lost:
            for index, question in enumerate(self._layout[unit]):
                if (unit, index) not in tolds:
                    left = units_but(self._units, lost)
                    teller = Teller(self._layout, left, bare_part(self._layout, None))
                    return Lacking(unit, index, teller.paper_on(question))
        return Rebuilt(tolds)


def units_but(units, gone):
    """The tuple of the units that are none of those gone."""
    return tuple([unit for unit in units if unit not in gone])


def check_many(layout, many):
    """Raise BadCount unless it is a number of units of the layout."""
    if not is_whole_from(many, 0, len(layout.units)):
        raise BadCount(many)


def check_losses(count):
    """Raise TooMany for too many losses."""
    if count > MOST_LOSSES:
        raise TooMany("losses", MOST_LOSSES)


def losses_of(units, many):
    """The list of the losses of so many units, in order."""
    return [tuple([units[index] for index in row]) for row in choices(len(units), many)]


def covers_by(rebuilder, units, many):
    """The Covers of all losses of so many units, or an Uncovered."""
    return covers_of(rebuilder, losses_of(units, many))


def covers_of(rebuilder, losses):
    """The Covers of some losses, or an Uncovered of the first one that is not rebuilt."""
    rebuilts = {}
    for lost in losses:
        paper = rebuilder.loss_paper(lost)
        if not paper:
            return Uncovered(lost, paper)
        rebuilts[lost] = paper
    return Covers(rebuilts)


def helpers_of(layout, lost, unit):
    """The tuple of the units left that can help a lost one, behind the errors of all three."""
    check_layout(layout)
    gone = told_units(layout, lost)
    if unit not in gone:
        raise BadUnit(unit)
    return matter_at_most(layout, units_but(layout.units, gone), bare_part(layout, None))


def joined(layout, many, other):
    """The layout of the kinds of both, behind the errors of all three."""
    check_layout(layout)
    check_many(layout, many)
    if not isinstance(other, Layout) or other.shape != layout.shape:
        raise BadLayout("other")
    if any([kind.WORD in [own.WORD for own in layout.kinds] for kind in other.kinds]):
        raise BadLayout("other")
    kinds = [*layout.kinds, *other.kinds]
    both = Layout(layout.shape, *kinds)
    check_losses(comb(len(layout.units), many) * (1 << len(other.units)))
    return both


def more_lots(units):
    """The list of the lots of some units, fewer units first."""
    return [lot for many in range(len(units) + 1) for lot in losses_of(units, many)]


def first_backing(rebuilder, losses, units):
    """The first lot of the units that backs all losses; all of them do."""
    for lot in more_lots(units):
        if rebuilder.rebuilds(losses, units_but(units, lot)):
            return lot
    return units
