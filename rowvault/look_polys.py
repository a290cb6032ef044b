"""Whether papers about polys are right; nothing is searched."""

from rowvault.checks import is_whole
from rowvault.look_told import are_alike_tables, is_answer_key
from rowvault.polys import ToldPoly, asked_poly, open_terms
from rowvault.terms import added, multiplied
from rowvault.told import Parted


def shows_told_poly(layout, units, poly, value, bare=None):
    """Whether any value is a right ToldPoly of the poly by the units, or a right Parted."""
    some, none = asked_poly(layout, units, poly, bare)
    if isinstance(value, Parted):
        return are_alike_tables(layout, some, none, value) and poly(value.one) != poly(value.other)
    if not isinstance(value, ToldPoly) or not is_whole(value.bottom) or value.bottom < 1:
        return False
    if not isinstance(value.terms, dict) or not all([is_key(layout, some, key) for key in value.terms]):
        return False
    if not all([is_whole(number) and number != 0 for number in value.terms.values()]):
        return False
    total = {}
    for key, number in value.terms.items():
        total = added(total, product_for(layout, key, none), number)
    rest = added(total, open_terms(poly, none), -value.bottom)
    return all([number == 0 for number in rest.values()])


def is_key(layout, units, value):
    """Whether any value is a tuple of at most two pairs of a unit and an index, in order."""
    if not isinstance(value, tuple) or len(value) > 2:
        return False
    if not all([is_answer_key(layout, units, key) for key in value]):
        return False
    places = [place_of(units, key) for key in value]
    return places == sorted([int(place) for place in places])


def place_of(units, key):
    """An integer by which pairs of a unit and an index are in order."""
    at = [number for number, unit in enumerate(units) if unit == key[0]][0]
    # No unit has so many answers.
    return at * 1000 + key[1]


def product_for(layout, key, bare):
    """The terms of the product of some answers, but for those with bare places."""
    total = {(): 1}
    for unit, index in key:
        weights = layout[unit][index].weights
        answer = {(place,): weights[place] for place in weights if place not in bare.places}
        total = multiplied(layout.shape, total, answer)
    return total
