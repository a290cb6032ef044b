"""What units cost, as a callable tells it."""

from rowvault.checks import is_whole_from
from rowvault.errors import BadRule

MOST_PRICE = 1000000000


def prices_of(units, price):
    """The dict from units to their prices; each one is asked for once, in order."""
    if units and (price is None or isinstance(price, (int, str, list, tuple, dict))):
        # Values that cannot be called tell nothing.
        raise BadRule("price")
    asked = [price(unit) for unit in units]
    for value in asked:
        if not is_whole_from(value, 0, MOST_PRICE):
            raise BadRule("price")
    return {unit: value for unit, value in zip(units, asked)}


def sum_of(prices, units):
    """What some units cost together."""
    return sum([prices[unit] for unit in units])


def cheapest_of(prices, lots, lost):
    """The first of the lots of the least price without lost units, or None."""
    best, least = None, -1
    for lot in lots:
        if any([unit in lost for unit in lot]):
            continue
        price = sum_of(prices, lot)
        if best is None or price < least:
            best, least = lot, price
    return best
