"""Crashes, reckoned in the tests by rows over the amounts and the change; what is right of papers about them."""

import itertools
import random

from rowvault.cuts import Every, Leads, Sizes
from rowvault.kinds import Blocks, Buckets, Cells, Pages, Stripes
from rowvault.layouts import Layout
from rowvault.orders import NoSafe, Order, Safe, Unsafe
from rowvault.shapes import Shape
from rowvault.tables import Table
from tests.helpers import TWO, is_int, is_of
from tests.papers import rank_of

JOURNALS = ["none", "old", "new", "change", "both"]
DAY = Shape(["a", "b"], 1)
SMALL = [
    Layout(DAY, Blocks(Every(1)), Stripes(2)), Layout(DAY, Blocks(Every(1)), Stripes(2, 2)), Layout(TWO, Pages(1), Buckets(1)),
    Layout(TWO, Blocks(Every(2)), Buckets(1)), Layout(TWO, Blocks(Every(2)), Pages(1), Cells(2), Buckets(1)),
    Layout(Shape(["a"], 3), Blocks(Sizes(1, 2)), Buckets(2)), Layout(Shape(list("abc"), 1), Blocks(Leads()), Stripes(3, 2)),
    Layout(TWO, Blocks(Every(1)), Stripes(3), Pages(2)), Layout(Shape(["a"], 1), Cells(2), Buckets(1)), Layout(DAY, Cells(2)),
]


def words_of(layout):
    return list(dict.fromkeys(unit.split(" ")[0] for unit in layout.units))


def orders_for(layout):
    return [Order(*words) for words in itertools.permutations(sorted(words_of(layout)))] if len(layout) else []


def writes_for(layout, order, place, journal):
    touched = [unit for unit in layout.units if any(one[place] for one in layout[unit])]
    first = [] if journal == "none" else ["journal"]
    return first + [unit for word in order.words for unit in touched if unit.split(" ")[0] == word]


def rows_behind(layout, place, journal, written):
    """For each unit the rows of its answers: weights of the amounts ahead of the put, then that of the change."""
    places = list(layout.shape)
    old = [1 if other == place else 0 for other in places]
    rows = {}
    if "journal" in written:
        told = {"old": [0], "new": [1], "both": [0, 1]}.get(journal)
        rows["journal"] = [[0] * len(places) + [1]] if told is None else [old + [one] for one in told]
    for unit in layout.units:
        rows[unit] = [[one[other] for other in places] + [one[place] if unit in written else 0] for one in layout[unit]]
    return rows


def tells(rows, wanted):
    rows = [list(row) for row in rows]
    return rank_of(rows + [wanted]) == rank_of(rows)


def wanted_row(layout, other, is_new=False):
    return [1 if at == other else 0 for at in layout.shape] + [1 if is_new else 0]


def is_told(layout, place, rows):
    """Whether all other amounts are told, and at the place the old or the new one."""
    if not all(tells(rows, wanted_row(layout, other)) for other in layout.shape if other != place):
        return False
    return tells(rows, wanted_row(layout, place)) or tells(rows, wanted_row(layout, place, True))


def left_rows(rows, lost):
    return [row for unit in rows if unit not in lost for row in rows[unit]]


def lots_of(units, many):
    return list(itertools.combinations(units, min(many, len(units))))


def all_cases(layout, order, many, journal):
    """All places, moments and losses, with the rows of all units."""
    for place in layout.shape:
        writes = writes_for(layout, order, place, journal)
        for moment in range(len(writes) + 1):
            rows = rows_behind(layout, place, journal, writes[:moment])
            for lost in lots_of(list(rows), many):
                yield place, moment, lost, rows


def first_unsafe(layout, order, many, journal):
    """The first place, moment and loss behind which not all is told; None without one."""
    for place, moment, lost, rows in all_cases(layout, order, many, journal):
        if not is_told(layout, place, left_rows(rows, lost)):
            return place, moment, lost
    return None


def has_block_left(layout, other, lost):
    return any(one[other] for unit in layout.units if unit.startswith("block") and unit not in lost for one in layout[unit])


def right_safe(layout, order, many, value, journal):
    if type(value) is not Safe or type(value.tolds) is not dict:
        return False
    wanted = {}
    for place, moment, lost, rows in all_cases(layout, order, many, journal):
        for other in layout.shape:
            if not has_block_left(layout, other, lost):
                wanted[place, moment, lost, other] = rows
    if sorted(map(repr, wanted)) != sorted(map(repr, value.tolds)):
        return False
    return all(right_triple(layout, key, wanted[key], triple) for key, triple in value.tolds.items())


def right_triple(layout, key, rows, value):
    place, _, lost, other = key
    if type(value) is not tuple or len(value) != 3:
        return False
    bottom, weights, is_new = value
    if not is_int(bottom) or bottom < 1 or type(weights) is not dict or type(is_new) is not bool or (is_new and other != place):
        return False
    total = [0] * (len(layout.shape) + 1)
    for name, weight in weights.items():
        if type(name) is not tuple or len(name) != 2 or type(name[0]) is not str or name[0] in lost or name[0] not in rows:
            return False
        if not is_int(name[1]) or not 0 <= name[1] < len(rows[name[0]]) or not is_int(weight) or weight == 0:
            return False
        total = [a + weight * b for a, b in zip(total, rows[name[0]][name[1]])]
    return total == [bottom * one for one in wanted_row(layout, other, is_new)]


def is_pair(layout, value):
    return type(value) is tuple and len(value) == 2 and is_of(value[0], Table, layout.shape) and is_int(value[1])


def step_between(layout, one, other):
    return [other[0][place] - one[0][place] for place in layout.shape] + [other[1] - one[1]]


def along(row, step):
    return sum(a * b for a, b in zip(row, step))


def right_unsafe(layout, order, many, value, journal):
    if type(value) is not Unsafe or type(value.place) is not tuple or value.place not in layout.shape:
        return False
    writes = writes_for(layout, order, value.place, journal)
    if not is_int(value.moment) or not 0 <= value.moment <= len(writes):
        return False
    rows = rows_behind(layout, value.place, journal, writes[:value.moment])
    lost = value.lost
    if type(lost) is not tuple or list(lost) != [unit for unit in rows if unit in lost] or len(lost) > many:
        return False
    if not is_pair(layout, value.one) or not is_pair(layout, value.other):
        return False
    step = step_between(layout, value.one, value.other)
    if any(along(row, step) for row in left_rows(rows, lost)):
        return False
    if any(along(wanted_row(layout, other), step) for other in layout.shape if other != value.place):
        return True
    return bool(along(wanted_row(layout, value.place), step) and along(wanted_row(layout, value.place, True), step))


def right_no_safe(layout, many, value, journal):
    if type(value) is not NoSafe or type(value.papers) is not dict:
        return False
    orders = {str(order): order for order in orders_for(layout)}
    return sorted(map(repr, value.papers)) == sorted(map(repr, orders)) and all(
        right_unsafe(layout, orders[text], many, paper, journal) for text, paper in value.papers.items())


def some_crashes(seed, many, layouts=SMALL):
    chance = random.Random(seed)
    for _ in range(many):
        layout = chance.choice(layouts)
        yield layout, chance.choice(orders_for(layout)), chance.choice([0, 1, 1, 2]), chance.choice(JOURNALS), chance
