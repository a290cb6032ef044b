"""Whether papers about sites are right; nothing is searched."""

from rowvault.checks import is_whole_from
from rowvault.look_losses import is_lacking, is_rebuilt
from rowvault.look_readings import is_lot_of
from rowvault.look_told import shows_parted, shows_told
from rowvault.lots import choices
from rowvault.readings import without
from rowvault.sites import (
    AtSites, Bearing, Bears, Fails, NoSpread, NotAsked, Sites, Spread, TooFew, asked_sites, check_many, check_sites,
)
from rowvault.ways import check_spread, first_way


def shows_at_sites(sites, numbers, question, value):
    """Whether any value is a right AtSites of these sites, a TooFew or a NotAsked."""
    some = asked_sites(sites, numbers, question)
    layout, units = sites.layout, sites.units_at(some)
    if isinstance(value, TooFew):
        return shows_parted(layout, units, question, value.parted)
    if isinstance(value, NotAsked):
        if not is_one_number(value.number, some):
            return False
        return shows_told(layout, sites.units_at(without(some, value.number)), question, value.told)
    if not isinstance(value, AtSites) or not are_numbers(value.numbers, len(sites.lots), len(some)):
        return False
    if list(value.numbers) != some or not shows_told(layout, units, question, value.told):
        return False
    if not isinstance(value.parteds, dict) or len(value.parteds) != len(some):
        return False
    if not all([is_one_number(number, some) for number in value.parteds]):
        return False
    others = {number: sites.units_at(without(some, number)) for number in some}
    return all([shows_parted(layout, others[number], question, paper) for number, paper in value.parteds.items()])


def shows_bears(sites, many, value):
    """Whether any value is a right Bears of all losses of so many sites, or a right Fails."""
    check_sites(sites)
    check_many(sites, many)
    if isinstance(value, Fails):
        return are_numbers(value.numbers, len(sites.lots), many) and is_failing(sites, value.numbers, value.lacking)
    return is_bears(sites, many, value)


def shows_bearing(sites, value):
    """Whether any value is a right Bearing of the sites."""
    check_sites(sites)
    if not isinstance(value, Bearing) or not is_whole_from(value.many, 0, len(sites.lots)):
        return False
    if not is_bears(sites, value.many, value.borne):
        return False
    held = are_numbers(value.numbers, len(sites.lots), value.many + 1)
    return held and is_failing(sites, value.numbers, value.lacking)


def shows_spread(layout, many, lost, value):
    """Whether any value is a right Spread of the units at so many sites, or a right NoSpread."""
    check_spread(layout, many, lost)
    if isinstance(value, NoSpread):
        return are_weak(layout, value.weak) and is_always_lost(layout, many, lost, list(value.weak))
    if not isinstance(value, Spread) or not isinstance(value.sites, Sites):
        return False
    held = value.sites.layout == layout and len(value.sites.lots) == many
    return held and is_bears(value.sites, lost, value.borne)


def is_one_number(value, numbers):
    """Whether any value is one of some numbers of sites."""
    return any([is_whole_from(value, number, number) for number in numbers])


def are_numbers(value, count, many):
    """Whether any value is a tuple of so many numbers of sites below a count, ascending."""
    if not isinstance(value, tuple) or len(value) != many:
        return False
    if not all([is_whole_from(number, 0, count - 1) for number in value]):
        return False
    return list(value) == [number for number in range(count) if number in value]


def is_bears(sites, many, value):
    """Whether any value is a right Bears of all losses of so many sites."""
    losses = choices(len(sites.lots), many)
    if not isinstance(value, Bears) or not isinstance(value.rebuilts, dict) or len(value.rebuilts) != len(losses):
        return False
    if not all([are_numbers(numbers, len(sites.lots), many) for numbers in value.rebuilts]):
        return False
    pairs = [(sites.units_at(numbers), paper) for numbers, paper in value.rebuilts.items()]
    return all([is_rebuilt(sites.layout, sites.layout.units, lost, paper) for lost, paper in pairs])


def is_failing(sites, numbers, value):
    """Whether any value is a right Lacking of the loss of some sites."""
    return is_lacking(sites.layout, sites.layout.units, sites.units_at(numbers), value)


def are_weak(layout, value):
    """Whether any value is a dict from lots of units to right Lackings of their losses."""
    if not isinstance(value, dict):
        return False
    if not all([is_lot_of(lot, layout.units) for lot in value]):
        return False
    return all([is_lacking(layout, layout.units, lot, paper) for lot, paper in value.items()])


def is_always_lost(layout, many, lost, lots):
    """Whether one of the lots is at so few sites, in whatever way the units are kept."""
    # A lot without units is at no site.
    return () in lots or first_way(layout.units, many, lost, lots) is None
