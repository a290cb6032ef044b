"""Sites, searched in the tests through all tuples and ways, and what is right of papers about them."""

import itertools
import random

from rowvault.cuts import Every, Leads
from rowvault.kinds import Blocks, Buckets, Cells, Pages, Stripes
from rowvault.layouts import Layout
from rowvault.questions import Question
from rowvault.shapes import Shape
from rowvault.sites import AtSites, Bearing, Bears, Fails, NoSpread, NotAsked, Sites, Spread, TooFew
from tests.helpers import TWO, is_int
from tests.lost import is_rebuilt, right_lacking, right_rebuilt
from tests.papers import all_lots, is_lot, is_right_parted, is_right_told, tells_all

THREE = Shape(list("abc"), 2)
SMALL = [
    Layout(TWO, Pages(1), Buckets(1)), Layout(TWO, Blocks(Every(2)), Buckets(1)), Layout(TWO, Blocks(Every(1)), Pages(2)),
    Layout(TWO, Blocks(Every(2)), Pages(1), Buckets(1)), Layout(THREE, Blocks(Leads()), Stripes(3, 2)),
    Layout(THREE, Pages(1), Buckets(1)), Layout(Shape(["a"], 1), Buckets(1)), Layout(TWO, Blocks(Every(1)), Stripes(2, 2)),
    Layout(TWO, Blocks(Every(2)), Cells(2), Buckets(1)),
]


def some_sites(seed, many):
    chance = random.Random(seed)
    for _ in range(many):
        layout = chance.choice(SMALL)
        count = chance.randint(1, min(5, len(layout)))
        units = list(layout.units)
        chance.shuffle(units)
        lots = [[unit] for unit in units[:count]]
        for unit in units[count:]:
            chance.choice(lots).append(unit)
        chance.shuffle(lots)
        yield Sites(layout, *[tuple(lot) if chance.random() < 0.5 else lot for lot in lots])


def some_question(chance, layout):
    total = Question(layout.shape, {})
    for _, one in layout.answers([chance.choice(layout.units) for _ in range(2)]):
        total = total + chance.randint(0, 2) * one
    if chance.random() < 0.4:
        total = Question(layout.shape, {chance.choice(layout.shape.places): 1})
    return total


def units_at(sites, numbers):
    return [unit for unit in sites.layout.units if any(unit in sites.lots[number] for number in numbers)]


def all_tuples(sites):
    return all_lots(range(len(sites.lots)))


def is_enough(sites, numbers, question):
    return tells_all(sites.layout, units_at(sites, numbers), [question])


def without(numbers, number):
    return tuple(one for one in numbers if one != number)


def least_sites(sites, question):
    return [numbers for numbers in all_tuples(sites) if is_enough(sites, numbers, question)
            and not any(is_enough(sites, without(numbers, one), question) for one in numbers)]


def least_cuts(sites, question):
    found = []
    for numbers in all_tuples(sites):
        others = [number for number in range(len(sites.lots)) if number not in numbers]
        if not is_enough(sites, others, question) and all(is_enough(sites, others + [one], question) for one in numbers):
            found.append(numbers)
    return found


def weak(layout):
    return [lot for lot in all_lots(layout.units) if not is_rebuilt(layout, lot)
            and all(is_rebuilt(layout, lot[:k] + lot[k + 1:]) for k in range(len(lot)))]


def ways(count, many):
    """All tuples of sites where each one stands first behind all less ones, just so many sites."""
    for way in itertools.product(range(many), repeat=count):
        firsts = [way.index(site) if site in way else None for site in range(many)]
        if None not in firsts and firsts == sorted(firsts):
            yield way


def sites_by(layout, way):
    return Sites(layout, *[[unit for unit, at in zip(layout.units, way) if at == site] for site in range(max(way) + 1)])


def are_numbers(value, sites, many=None):
    return type(value) is tuple and all(is_int(one) for one in value) and value in all_tuples(sites) \
        and (many is None or len(value) == many)


def right_at_sites(sites, numbers, question, value):
    layout, some = sites.layout, tuple(sorted(set(numbers)))
    if type(value) is TooFew:
        return is_right_parted(layout, units_at(sites, some), question, value.parted)
    if type(value) is NotAsked:
        if not is_int(value.number) or value.number not in some:
            return False
        return is_right_told(layout, units_at(sites, without(some, value.number)), question, value.told)
    if type(value) is not AtSites or not are_numbers(value.numbers, sites) or value.numbers != some:
        return False
    if not is_right_told(layout, units_at(sites, some), question, value.told) or type(value.parteds) is not dict:
        return False
    return sorted(map(repr, value.parteds)) == sorted(map(repr, some)) and all(
        is_right_parted(layout, units_at(sites, without(some, one)), question, paper)
        for one, paper in value.parteds.items())


def right_bears(sites, many, value):
    if type(value) is Fails:
        return are_numbers(value.numbers, sites, many) and right_lacking(
            sites.layout, units_at(sites, value.numbers), value.lacking)
    if type(value) is not Bears or type(value.rebuilts) is not dict:
        return False
    wanted = [numbers for numbers in all_tuples(sites) if len(numbers) == many]
    return sorted(map(repr, value.rebuilts)) == sorted(map(repr, wanted)) and all(
        right_rebuilt(sites.layout, units_at(sites, numbers), paper) for numbers, paper in value.rebuilts.items())


def right_bearing(sites, value):
    if type(value) is not Bearing or not is_int(value.many) or not 0 <= value.many < len(sites.lots):
        return False
    return type(value.borne) is Bears and right_bears(sites, value.many, value.borne) \
        and right_bears(sites, value.many + 1, Fails(value.numbers, value.lacking))


def right_spread(layout, many, lost, value):
    if type(value) is Spread:
        if type(value.sites) is not Sites or value.sites.layout != layout or len(value.sites.lots) != many:
            return False
        return type(value.borne) is Bears and right_bears(value.sites, lost, value.borne)
    if type(value) is not NoSpread or type(value.weak) is not dict:
        return False
    for lot, paper in value.weak.items():
        if not is_lot(lot, layout.units) or not right_lacking(layout, lot, paper):
            return False
    for way in ways(len(layout), many):
        site = dict(zip(layout.units, way))
        if not any(len({site[unit] for unit in lot}) <= lost for lot in value.weak):
            return False
    return True
