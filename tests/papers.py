"""Papers that are looked at in the tests: what is right by the document, and papers with one thing otherwise."""

import itertools

from rowvault import errors
from rowvault.layouts import Layout
from rowvault.parts import Part
from rowvault.questions import Question
from rowvault.shapes import Shape
from rowvault.sites import Sites
from rowvault.tables import Table
from rowvault.told import Parted, Told
from tests.helpers import is_int, is_of

PRIME = 2 ** 61 - 1


def rank_of(rows):
    """The rank of rows of small integers, reckoned by a great prime."""
    rows = [[number % PRIME for number in row] for row in rows]
    found = 0
    for column in range(len(rows[0]) if rows else 0):
        at = next((k for k in range(found, len(rows)) if rows[k][column]), None)
        if at is None:
            continue
        rows[found], rows[at] = rows[at], rows[found]
        top = rows[found]
        inverse = pow(top[column], -1, PRIME)
        for k in range(found + 1, len(rows)):
            if rows[k][column]:
                times = rows[k][column] * inverse % PRIME
                rows[k] = [(a - times * b) % PRIME for a, b in zip(rows[k], top)]
        found += 1
    return found


def open_places(shape, bare):
    return [place for place in shape if bare is None or place not in bare]


def weights_at(question, places):
    return [question[place] for place in places]


def tells_all(layout, units, questions, bare=None):
    """Whether units tell all of some questions, by ranks."""
    places = open_places(layout.shape, bare)
    rows = [weights_at(answer, places) for unit in units for answer in layout[unit]]
    return rank_of(rows + [weights_at(question, places) for question in questions]) == rank_of(rows)


def is_right_told(layout, units, question, value, bare=None):
    """As the document tells what a Told is, over any values."""
    if type(value) is not Told or not is_int(value.bottom) or value.bottom < 1 or type(value.weights) is not dict:
        return False
    for key, weight in value.weights.items():
        if type(key) is not tuple or len(key) != 2 or type(key[0]) is not str or key[0] not in units:
            return False
        if not is_int(key[1]) or not 0 <= key[1] < len(layout[key[0]]) or not is_int(weight) or weight == 0:
            return False
    for place in open_places(layout.shape, bare):
        total = sum(weight * layout[unit][index][place] for (unit, index), weight in value.weights.items())
        if total != value.bottom * question[place]:
            return False
    return True


def is_right_parted(layout, units, question, value, bare=None):
    if type(value) is not Parted:
        return False
    if not all(is_of(table, Table, layout.shape) for table in (value.one, value.other)):
        return False
    if any(table[place] != 0 for table in (value.one, value.other) for place in (bare or ())):
        return False
    for unit in units:
        if any(answer(value.one) != answer(value.other) for answer in layout[unit]):
            return False
    return question(value.one) != question(value.other)


def is_lot(value, units):
    """Whether a value is a tuple of some units in order, each once."""
    return type(value) is tuple and all(type(unit) is str for unit in value) \
        and list(value) == [unit for unit in units if unit in value]


def all_lots(units):
    """All lots of units, fewer ones first, then as tuples of indexes."""
    return [lot for many in range(len(units) + 1) for lot in itertools.combinations(units, many)]


ODD = [None, True, False, 0, 1, 2, -1, "", "block 0", "x", (), ("block 0",), [], {}, ("a", 0), 10 ** 30]


def odd_ones(value):
    """Other values in the place of one, its own parts aside."""
    if isinstance(value, bool):
        return [not value, int(value), None]
    if isinstance(value, int):
        return [value + 1, value - 1, -value, 2 * value, str(value), (value,), bool(value), None]
    if isinstance(value, str):
        return [value + " ", value[:-1], value[:-1] + "9", value.upper(), (value,), None, 0]
    if isinstance(value, tuple):
        rows = [list(value), value + value, value[::-1], value + (None,), value + ("block 0",), None, True]
        return rows + [value[:k] + value[k + 1:] for k in range(len(value))] + [value + value[:1]]
    if isinstance(value, list):
        return [tuple(value), value + value, None]
    if isinstance(value, dict):
        pairs = list(value.items())
        rows = [pairs, tuple(value), None, {}, {**value, "x": 1}, {**value, ("block 0", 0): 1}, {**value, (): None}]
        return rows + [dict(pairs[:k] + pairs[k + 1:]) for k in range(len(pairs))]
    return list(ODD)


def parts_of(value):
    """The parts of a value: pairs of a part and a function that puts another one into its place."""
    if isinstance(value, (tuple, list)):
        return [(part, lambda new, k=k: value[:k] + type(value)([new]) + value[k + 1:]) for k, part in enumerate(value)]
    if isinstance(value, dict):
        rows = [(part, lambda new, key=key: {**value, key: new}) for key, part in value.items()]
        return rows + [(key, lambda new, key=key: renamed(value, key, new)) for key in value]
    if isinstance(value, (Layout, Shape, Part, Question, Sites, errors.VaultError)):
        return []
    if isinstance(value, Table):
        return [(amount, lambda new, place=place: changed_table(value, place, new))
                for place, amount in [(place, value[place]) for place in value.shape]]
    if hasattr(value, "__dict__") and type(value).__module__.startswith("rowvault"):
        fields = [name for name in vars(value) if not name.startswith("_")]
        return [(vars(value)[name], lambda new, name=name: type(value)(**{**{one: vars(value)[one] for one in fields},
                                                                           name: new})) for name in fields]
    return []


def renamed(value, key, new):
    try:
        return {(new if one == key else one): part for one, part in value.items()}
    except TypeError:
        return {**value, None: 1}


def changed_table(table, place, amount):
    return table.with_amount(place, amount) if is_int(amount) else amount


def swapped(value, chance):
    """A value with two parts exchanged, or as it is."""
    if isinstance(value, tuple) and len(value) > 1:
        one, two = chance.sample(range(len(value)), 2)
        rows = list(value)
        rows[one], rows[two] = rows[two], rows[one]
        return tuple(rows)
    if isinstance(value, dict) and len(value) > 1:
        one, two = chance.sample(list(value), 2)
        return {**value, one: value[two], two: value[one]}
    return value


def altered(value, chance, others=()):
    """A value with one thing otherwise, somewhere within; others are values that may stand anywhere."""
    rows = parts_of(value)
    if rows and chance.random() < 0.8:
        part, put = chance.choice(rows)
        return put(altered(part, chance, others))
    kind = chance.random()
    if kind < 0.15:
        return swapped(value, chance)
    if kind < 0.3 and others:
        return chance.choice(others)
    return chance.choice(odd_ones(value))
