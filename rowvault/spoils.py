"""Spoilt units: answers that were read wrong, and what the relations between answers tell of them."""

from math import comb, gcd, lcm

from rowvault.asked import check_layout
from rowvault.checks import is_whole_from
from rowvault.errors import BadCount, BadVault
from rowvault.holding import are_some_answers
from rowvault.images import are_answers
from rowvault.layouts import told_units
from rowvault.losses import Rebuilder, check_losses, covers_of, losses_of
from rowvault.spans import vector_of
from rowvault.tables import Table
from rowvault.ties import Ties
from rowvault.vectors import rows_of

MOST_SPOILT = 3


class Agreeing:
    """A paper: a bottom and a table that give all answers."""

    def __init__(self, bottom, table):
        self.bottom = bottom
        self.table = table

    def __eq__(self, other):
        return isinstance(other, Agreeing) and self.bottom == other.bottom and self.table == other.table


class Broken:
    """A false paper: a relation that the answers break."""

    def __init__(self, weights):
        self.weights = weights

    def __bool__(self):
        return False

    def __eq__(self, other):
        return isinstance(other, Broken) and self.weights == other.weights


class Finds:
    """A paper: a Rebuilt of each lot that can be spoilt, so it breaks a relation."""

    def __init__(self, rebuilts):
        self.rebuilts = rebuilts

    def __eq__(self, other):
        return isinstance(other, Finds) and self.rebuilts == other.rebuilts


class Unfound:
    """A false paper: two tables that are unlike, but alike in all units but a few."""

    def __init__(self, one, other):
        self.one = one
        self.other = other

    def __bool__(self):
        return False

    def __eq__(self, other):
        return isinstance(other, Unfound) and self.one == other.one and self.other == other.other


class Rights:
    """A paper: a Rebuilt of any two lots that can be spoilt together, so they can be set right."""

    def __init__(self, rebuilts):
        self.rebuilts = rebuilts

    def __eq__(self, other):
        return isinstance(other, Rights) and self.rebuilts == other.rebuilts


class Unrighted:
    """A false paper: two tables that are unlike, and answers that each of them gives but for a few units."""

    def __init__(self, one, other, given):
        self.one = one
        self.other = other
        self.given = given

    def __bool__(self):
        return False

    def __eq__(self, other):
        return (isinstance(other, Unrighted) and self.one == other.one and self.other == other.other
                and self.given == other.given)


class Righted:
    """A paper: a bottom and a table that give all answers but those of spoilt units, and why no other ones do."""

    def __init__(self, bottom, table, spoilt, cases):
        self.bottom = bottom
        self.table = table
        self.spoilt = spoilt
        self.cases = cases

    def __eq__(self, other):
        return (isinstance(other, Righted) and self.bottom == other.bottom and self.table == other.table
                and self.spoilt == other.spoilt and self.cases == other.cases)


class Unclear:
    """A false paper: two pairs of a bottom and a table, each of which can stand behind the answers."""

    def __init__(self, one, other):
        self.one = one
        self.other = other

    def __bool__(self):
        return False

    def __eq__(self, other):
        return isinstance(other, Unclear) and self.one == other.one and self.other == other.other


class Hopeless:
    """A false paper: a Broken for each lot that can be spoilt."""

    def __init__(self, cases):
        self.cases = cases

    def __bool__(self):
        return False

    def __eq__(self, other):
        return isinstance(other, Hopeless) and self.cases == other.cases


def relations(layout, units):
    """Yield the relations between the answers of the units, one for each that those ahead tell."""
    check_layout(layout)
    some = told_units(layout, units)
    for weights in Ties(layout, some).all_weights():
        yield weights


def agree(layout, answers):
    """An Agreeing with the answers of some units, or a Broken."""
    check_layout(layout)
    check_some_answers(layout, answers)
    units = told_units(layout, list(answers))
    found = Ties(layout, units)
    broken = found.broken_by([], found.values_of(answers))
    if broken is not None:
        return Broken(broken)
    bottom, table = giving(layout, units, answers)
    return Agreeing(bottom, table)


def finds(layout, many):
    """A Finds of all lots of many units, or an Unfound."""
    check_layout(layout)
    lots = lots_spoilt(layout, many, 1)
    paper = covers_of(Rebuilder(layout, layout.units), lots)
    if not paper:
        parted = paper.lacking.parted
        return Unfound(parted.one, parted.other)
    return Finds(paper.rebuilts)


def rights(layout, many):
    """A Rights of all lots of twice many units, or an Unrighted."""
    check_layout(layout)
    lots = lots_spoilt(layout, many, 2)
    paper = covers_of(Rebuilder(layout, layout.units), lots)
    if not paper:
        parted = paper.lacking.parted
        # The answers are those of the one table, but for half of the lot those of the other one.
        tables = {unit: parted.other if unit in paper.lost[:many] else parted.one for unit in layout.units}
        given = {unit: answers_by(layout, unit, tables[unit]) for unit in layout.units}
        return Unrighted(parted.one, parted.other, given)
    return Rights(paper.rebuilts)


def righted(layout, answers, many):
    """A Righted of the answers of all units, an Unclear or a Hopeless."""
    check_layout(layout)
    check_all_answers(layout, answers)
    lots = lots_spoilt(layout, many, 1)
    found = Ties(layout, layout.units)
    values = found.values_of(answers)
    rebuilder = Rebuilder(layout, layout.units)
    first, fixed = None, None
    cases = {}
    for lot in lots:
        broken = found.broken_by(lot, values)
        cases[lot] = rebuilder.loss_paper(lot) if broken is None else Broken(broken)
        if broken is not None:
            continue
        # The answers without this lot break no relation, so a table stands behind them.
        if not cases[lot]:
            return unclear_beside(layout, answers, lot, cases[lot].parted)
        if first is None:
            first, fixed = lot, found.fixed_by(lot, values)
        elif found.fixed_by(lot, values) != fixed:
            return Unclear(giving_but(layout, first, answers), giving_but(layout, lot, answers))
    if first is None:
        return Hopeless(cases)
    bottom, table = giving_but(layout, first, answers)
    return Righted(bottom, table, units_wrong(layout, answers, bottom, table), cases)


def check_some_answers(layout, answers):
    """Raise BadVault unless it is a dict from units to as many integers as they have answers."""
    if not are_some_answers(layout, answers):
        raise BadVault("answers")


def check_all_answers(layout, answers):
    """Raise BadVault unless it is such a dict from all units."""
    if not are_answers(layout, answers):
        raise BadVault("answers")


def lots_spoilt(layout, many, times):
    """The list of the lots of so many units, or the lot of all if there are fewer."""
    if not is_whole_from(many, 0, MOST_SPOILT):
        raise BadCount(many)
    count = min(len(layout.units), int(many) * times)
    check_losses(comb(len(layout.units), count))
    return losses_of(layout.units, count)


def answers_by(layout, unit, table):
    """The tuple of the answers of a unit for a table."""
    return tuple([one(table) for one in layout[unit]])


def giving(layout, units, answers):
    """A bottom and a table, in lowest terms, that give the answers of some units, which break no relation."""
    shape = layout.shape
    width = len(shape)
    # The column behind the places tells what a row answers.
    vectors = [with_value(vector_of(one), width, answers[unit][index]) for (unit, index), one in layout.answers(units)]
    rows = rows_of(vectors, width)
    bottom = 1
    for lead, row in rows.items():
        bottom = lcm(bottom, row[lead] // gcd(row[lead], row.get(width, 0)))
    amounts = {shape.places[lead]: row.get(width, 0) * bottom // row[lead] for lead, row in rows.items()}
    return bottom, Table(shape, amounts)


def with_value(vector, column, value):
    """The vector with a value at a column."""
    return {**vector, column: value} if value != 0 else vector


def giving_but(layout, lot, answers):
    """A bottom and a table that give the answers of all units but a lot."""
    return giving(layout, [unit for unit in layout.units if unit not in lot], answers)


def unclear_beside(layout, answers, lot, parted):
    """The Unclear of a table that gives all answers but those of a lot, and another one beside it."""
    bottom, table = giving_but(layout, lot, answers)
    return Unclear((bottom, table), in_lowest_pair(bottom, table + parted.other - parted.one))


def in_lowest_pair(bottom, table):
    """A bottom and a table divided by their greatest common divisor."""
    common = bottom
    for amount in table.amounts.values():
        common = gcd(common, amount)
    return bottom // common, Table(table.shape, {place: table[place] // common for place in table})


def units_wrong(layout, answers, bottom, table):
    """The tuple of the units whose answers a bottom and a table do not give."""
    return tuple([unit for unit in layout.units if not gives(layout, unit, answers[unit], bottom, table)])


def gives(layout, unit, answers, bottom, table):
    """Whether a bottom and a table give these answers of a unit."""
    return all([one(table) == bottom * answer for one, answer in zip(layout[unit], answers)])
