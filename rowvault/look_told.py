"""Whether papers about what units tell are right; nothing is searched."""

from rowvault.asked import asked_of
from rowvault.checks import is_whole, is_whole_from
from rowvault.tables import is_table_of
from rowvault.told import Parted, Told


def shows_told(layout, units, question, value, bare=None):
    """Whether any value is a right Told of the question by the units."""
    some, none = asked_of(layout, units, question, bare)
    if not isinstance(value, Told) or not is_whole(value.bottom) or value.bottom < 1:
        return False
    if not are_weights(layout, some, value.weights):
        return False
    places = [place for place in layout.shape.places if place not in none]
    return all([value.bottom * question[place] == weight_at(layout, value.weights, place) for place in places])


def are_weights(layout, units, value):
    """Whether any value is a dict from answers of the units to integers other than 0."""
    if not isinstance(value, dict):
        return False
    held = all([is_answer_key(layout, units, key) for key in value])
    return held and all([is_whole(weight) and weight != 0 for weight in value.values()])


def is_answer_key(layout, units, value):
    """Whether any value is a pair of one of the units and the index of one of its answers."""
    if not isinstance(value, tuple) or len(value) != 2:
        return False
    unit, index = value
    return isinstance(unit, str) and unit in units and is_whole_from(index, 0, len(layout[unit]) - 1)


def weight_at(layout, weights, place):
    """The weight at a place of the sum of answers, each times its weight."""
    return sum([weight * layout[unit][index][place] for (unit, index), weight in weights.items()])


def shows_parted(layout, units, question, value, bare=None):
    """Whether any value is a right Parted of the question by the units."""
    some, none = asked_of(layout, units, question, bare)
    if not isinstance(value, Parted) or not are_alike_tables(layout, some, none, value):
        return False
    return question(value.one) != question(value.other)


def are_alike_tables(layout, units, bare, value):
    """Whether a Parted has two tables, 0 at all bare places, that are alike in the units."""
    one, other = value.one, value.other
    if not is_table_of(one, layout.shape) or not is_table_of(other, layout.shape):
        return False
    if any([one[place] != 0 or other[place] != 0 for place in bare]):
        return False
    return all([answer(one) == answer(other) for key, answer in layout.answers(units)])
