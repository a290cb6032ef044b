"""Ways to keep units at sites."""

from rowvault.asked import check_layout
from rowvault.checks import is_whole_from
from rowvault.errors import BadCount, BadSites, BadUnit, TooMany

MOST_SITES = 10
MOST_SPREAD = 8
MOST_KEPT = 4


def check_lots(layout, lots):
    """Raise the error of lots that do not keep each unit of a layout just once, at few sites."""
    if lots == () or not all([isinstance(lot, (list, tuple)) and len(lot) > 0 for lot in lots]):
        raise BadSites("lots")
    ahead = []
    for item in [item for lot in lots for item in lot]:
        if item not in layout or item in ahead:
            raise BadUnit(item)
        ahead.append(item)
    if len(ahead) < len(layout.units):
        raise BadSites("units")
    if len(lots) > MOST_SITES:
        raise TooMany("sites", MOST_SITES)


def check_spread(layout, many, lost):
    """Raise the error of what units cannot be spread by."""
    check_layout(layout)
    if len(layout.units) > MOST_SPREAD:
        raise TooMany("units", MOST_SPREAD)
    if not is_whole_from(many, 1, min(len(layout.units), MOST_KEPT)):
        raise BadCount(many)
    if not is_whole_from(lost, 0, many):
        raise BadCount(lost)


def ways_of(count, many):
    """The list of the tuples of sites of so many units, at just so many sites, in order.

    Each site stands first behind all sites of less numbers.
    """
    rows = [()]
    for _ in range(count):
        rows = [(*row, site) for row in rows for site in range(min(int(many), len(set(row)) + 1))]
    return [row for row in rows if len(set(row)) == many]


def sites_held(site_by, lot):
    """How many sites have units of a lot."""
    return len(set([site_by[unit] for unit in lot]))


def lots_by(site_by, many):
    """The list of the lots at so many sites."""
    return [[unit for unit in site_by if site_by[unit] == number] for number in range(many)]
