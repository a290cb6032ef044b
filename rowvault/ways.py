"""Ways to keep units at sites."""

from rowvault.asked import check_layout
from rowvault.checks import is_whole_from
from rowvault.errors import BadCount, BadSites, BadUnit, TooMany

MOST_SITES = 10
MOST_SPREAD = 8
MOST_KEPT = 4


def check_lots(layout, lots):
    """Raise the error of lots that do not keep each unit of a layout just once, at few sites."""
    if lots == () or not all([isinstance(lot, (list, tuple)) and len(lot) > 0 for lot in lots]):
        raise BadSites("lots")
    ahead = []
    for item in [item for lot in lots for item in lot]:
        if item not in layout or item in ahead:
            raise BadUnit(item)
        ahead.append(item)
    if len(ahead) < len(layout.units):
        raise BadSites("units")
    if len(lots) > MOST_SITES:
        raise TooMany("sites", MOST_SITES)


def check_spread(layout, many, lost):
    """Raise the error of what units cannot be spread by."""
    check_layout(layout)
    if len(layout.units) > MOST_SPREAD:
        raise TooMany("units", MOST_SPREAD)
    if not is_whole_from(many, 1, min(len(layout.units), MOST_KEPT)):
        raise BadCount(many)
    if not is_whole_from(lost, 0, many):
        raise BadCount(lost)


def first_way(units, many, lost, lots):
    """The first way to keep units at just so many sites, each of the lots at more sites than may be lost, or None.

    A way is the tuple of the sites of the units. Each site stands first behind all sites of less numbers.
    """
    return way_from((), units, many, lost, lots)


def way_from(way, units, many, lost, lots):
    """The first such way that begins with the sites of the first units, or None."""
    if len(way) == len(units):
        return way
    used = len(set(way))
    last = units[len(way)]
    for site in range(min(int(many), used + 1)):
        more = (*way, site)
        # The units behind must be able to fill all sites, and each lot that is kept is kept well.
        if len(set(more)) + len(units) - len(more) < many:
            continue
        if all([sites_held(more, units, lot) > lost for lot in lots if is_kept_by(units, lot, last)]):
            found = way_from(more, units, many, lost, lots)
            if found is not None:
                return found
    return None


def is_kept_by(units, lot, last):
    """Whether a lot has a unit, and none behind it."""
    return [unit for unit in units if unit in lot][-1:] == [last]


def sites_held(way, units, lot):
    """How many sites have units of a lot, of those that a way begins with."""
    return len(set([site for site, unit in zip(way, units) if unit in lot]))


def lots_by(way, units, many):
    """The list of the lots at so many sites."""
    return [[unit for unit, site in zip(units, way) if site == number] for number in range(many)]
