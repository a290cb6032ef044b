"""What units cost, as a callable tells it."""

from rowvault.checks import is_whole_from
from rowvault.errors import BadRule

MOST_PRICE = 1000000000


def prices_of(units, price):
    """The dict from units to their prices; each one is asked for once, in order."""
    if units and (price is None or isinstance(price, (int, str, list, tuple, dict))):
        # Values that cannot be called tell nothing.
        raise BadRule("price")
    asked = [price(unit) for unit in units]
    for value in asked:
        if not is_whole_from(value, 0, MOST_PRICE):
            raise BadRule("price")
    return {unit: value for unit, value in zip(units, asked)}


def sum_of(prices, units):
    """What some units cost together."""
    return sum([prices[unit] for unit in units])


def by_price(prices, lots):
    """The list of the lots by price; of one price, as they stand."""
    count = len(lots)
    places = [sum_of(prices, lot) * count + at for at, lot in enumerate(lots)]
    return [lots[place % count] for place in sorted([int(one) for one in places])]


def first_left(lots, lost):
    """The first of the lots without lost units, or None."""
    for lot in lots:
        if not any([unit in lost for unit in lot]):
            return lot
    return None
