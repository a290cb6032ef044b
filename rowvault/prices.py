"""What units cost, as a callable tells it."""

from rowvault.checks import is_whole_from
from rowvault.errors import BadRule

MOST_PRICE = 1000000000


def prices_of(units, price):
    """The dict from units to their prices; each one is asked for once, in order."""
    asked = [price(unit) for unit in units]
    for value in asked:
        if not is_whole_from(value, 0, MOST_PRICE):
            raise BadRule("price")
    return {unit: value for unit, value in zip(units, asked)}


def sum_of(prices, units):
    """What some units cost together."""
    return sum([prices[unit] for unit in units])
