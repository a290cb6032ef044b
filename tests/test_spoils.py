"""Spoilt units: relations and tables reckoned over fractions, papers against a search through all lots."""

import itertools
import math
import random
import unittest
from fractions import Fraction

from rowvault.cuts import Every, Leads, Sizes
from rowvault.errors import BadCount, BadLayout, BadUnit, BadVault, TooMany
from rowvault.kinds import Blocks, Buckets, Cells, Pages, Stripes
from rowvault.layouts import Layout
from rowvault.look_spoils import shows_agree, shows_finds, shows_relation, shows_righted, shows_rights
from rowvault.losses import Rebuilt, covers, rebuilt
from rowvault.shapes import Shape
from rowvault.spoils import (
    Agreeing, Broken, Finds, Hopeless, Righted, Rights, Unclear, Unfound, Unrighted, agree, finds, in_lowest_pair,
    relations, righted, rights,
)
from rowvault.tables import Table
from tests.helpers import OTHER, TWO, Case, any_values, is_int, is_of, reduced, whole_numbers
from tests.lost import is_rebuilt, right_rebuilt, right_rebuilts
from tests.papers import altered, is_lot, rank_of, weights_at

DAY = Shape(["a", "b"], 1)
THREE = Shape(list("abc"), 2)
SINGLE, DOUBLE = Layout(DAY, Blocks(Every(1)), Stripes(2)), Layout(DAY, Blocks(Every(1)), Stripes(2, 2))
FULL = Layout(TWO, Blocks(Every(2)), Pages(1), Cells(2), Buckets(1))
LINE = Layout(Shape(["a"], 3), Blocks(Every(1)), Stripes(3, 2))
SMALL = [
    Layout(TWO), Layout(TWO, Pages(1), Buckets(1)), Layout(TWO, Blocks(Every(2)), Buckets(1)),
    Layout(TWO, Blocks(Every(1)), Pages(2)), Layout(TWO, Blocks(Every(2)), Pages(1), Buckets(1)), SINGLE, DOUBLE, LINE,
    Layout(THREE, Blocks(Leads()), Stripes(3, 2)), Layout(Shape(["a"], 3), Blocks(Sizes(1, 2)), Cells(3), Buckets(2)),
    Layout(Shape(["a"], 1), Buckets(1)), Layout(Shape(["a"], 4), Blocks(Every(1)), Stripes(4, 2), Pages(1), Buckets(4)),
]


def answers_of(layout, table, units=None):
    return {unit: tuple(one(table) for one in layout[unit]) for unit in (layout.units if units is None else units)}


def some_table(chance, layout, most=9):
    return Table(layout.shape, {place: chance.randint(-most, most) for place in layout.shape})


def spoilt_answers(chance, layout, many):
    """The answers of a table, some units' answers otherwise."""
    answers = answers_of(layout, some_table(chance, layout))
    for unit in chance.sample(list(answers), min(many, len(answers))):
        row = list(answers[unit])
        row[chance.randrange(len(row))] += chance.choice([1, -1, 5, 10 ** 9])
        answers[unit] = tuple(row)
    return answers


def lots_of(layout, many):
    return list(itertools.combinations(layout.units, min(many, len(layout))))


def pairs_of(layout, units):
    return [(unit, index) for unit in layout.units if unit in units for index in range(len(layout[unit]))]


def row_of(layout, pair):
    return weights_at(layout[pair[0]][pair[1]], layout.shape.places)


def relations_by_fractions(layout, units):
    """For each answer that those ahead tell the relation, solved by rows over fractions."""
    ahead, found = [], []
    for pair in pairs_of(layout, units):
        rows = [row_of(layout, one) for one in ahead]
        if rank_of(rows + [row_of(layout, pair)]) > rank_of(rows):
            ahead.append(pair)
            continue
        # Columns: the answers ahead, which are independent; the last one is the answer itself.
        system = [[row[at] for row in rows] + [row_of(layout, pair)[at]] for at in range(len(layout.shape))]
        solved, leads = reduced(system)
        assert leads == list(range(len(ahead)))
        numbers = whole_numbers([-row[-1] for row in solved] + [Fraction(1)])
        found.append({one: number for one, number in zip(ahead + [pair], numbers) if number})
    return found


def is_consistent(layout, units, answers):
    """Whether some table of fractions has the answers of the units."""
    rows = [row_of(layout, pair) for pair in pairs_of(layout, units)]
    values = [answers[unit][index] for unit, index in pairs_of(layout, units)]
    return len(reduced(rows)[1]) == len(reduced([row + [value] for row, value in zip(rows, values)])[1])


def is_pair(layout, value):
    return type(value) is tuple and len(value) == 2 and is_int(value[0]) and value[0] >= 1 \
        and is_of(value[1], Table, layout.shape)


def wrong_units(layout, answers, pair):
    """The units whose answers a pair of a bottom and a table does not give."""
    bottom, table = pair
    return tuple(unit for unit in layout.units if unit in answers
                 and any(one(table) != bottom * answer for one, answer in zip(layout[unit], answers[unit])))


def is_in_lowest_terms(pair):
    return math.gcd(pair[0], *[amount for amount in pair[1].amounts.values()]) == 1


def right_relation(layout, value, units=None):
    if type(value) is not dict:
        return False
    for pair, number in value.items():
        if type(pair) is not tuple or len(pair) != 2 or not is_int(pair[1]) or not is_int(number) or number == 0:
            return False
        if pair not in pairs_of(layout, layout.units if units is None else units):
            return False
    return all(sum(number * layout[unit][index][place] for (unit, index), number in value.items()) == 0
               for place in layout.shape)


def right_broken(layout, units, answers, value):
    return type(value) is Broken and right_relation(layout, value.weights, units) \
        and sum(number * answers[unit][index] for (unit, index), number in value.weights.items()) != 0


def right_agree(layout, answers, value):
    if type(value) is Agreeing:
        return is_pair(layout, (value.bottom, value.table)) and not wrong_units(layout, answers, (value.bottom, value.table))
    return right_broken(layout, list(answers), answers, value)


def unlike(layout, one, other):
    return [unit for unit in layout.units if any(other[0] * ask(one[1]) != one[0] * ask(other[1]) for ask in layout[unit])]


def right_finds(layout, many, value):
    if type(value) is Finds:
        return right_rebuilts(layout, lots_of(layout, many), value.rebuilts)
    if type(value) is not Unfound or not is_pair(layout, (1, value.one)) or not is_pair(layout, (1, value.other)):
        return False
    return 0 < len(unlike(layout, (1, value.one), (1, value.other))) <= many


def two_ways(layout, answers, many, one, other):
    return is_pair(layout, one) and is_pair(layout, other) and bool(unlike(layout, one, other)) \
        and len(wrong_units(layout, answers, one)) <= many and len(wrong_units(layout, answers, other)) <= many


def are_answers(layout, value):
    return type(value) is dict and set(value) == set(layout.units) and all(
        type(value[unit]) is tuple and len(value[unit]) == len(layout[unit]) and all(map(is_int, value[unit]))
        for unit in layout.units)


def right_rights(layout, many, value):
    if type(value) is Rights:
        return right_rebuilts(layout, lots_of(layout, 2 * many), value.rebuilts)
    return type(value) is Unrighted and are_answers(layout, value.given) \
        and two_ways(layout, value.given, many, (1, value.one), (1, value.other))


def right_cases(layout, answers, many, spoilt, value):
    lots = lots_of(layout, many)
    if type(value) is not dict or len(value) != len(lots) or any(lot not in value for lot in lots):
        return False
    for lot in lots:
        if spoilt is not None and set(spoilt) <= set(lot):
            if not right_rebuilt(layout, lot, value[lot]):
                return False
        elif not right_broken(layout, [unit for unit in layout.units if unit not in lot], answers, value[lot]):
            return False
    return True


def right_righted(layout, answers, many, value):
    if type(value) is Unclear:
        return two_ways(layout, answers, many, value.one, value.other)
    if type(value) is Hopeless:
        return right_cases(layout, answers, many, None, value.cases)
    if type(value) is not Righted or not is_pair(layout, (value.bottom, value.table)):
        return False
    if not is_lot(value.spoilt, layout.units) or len(value.spoilt) > many:
        return False
    return value.spoilt == wrong_units(layout, answers, (value.bottom, value.table)) \
        and right_cases(layout, answers, many, value.spoilt, value.cases)


class Relations(Case):
    def test_relations(self):
        chance = random.Random(1)
        seen = 0
        for layout in SMALL + [FULL]:
            for _ in range(6):
                units = [unit for unit in layout if chance.random() < 0.8]
                units = units + units[:2]
                chance.shuffle(units)
                found = list(relations(layout, units))
                self.assertEqual(found, relations_by_fractions(layout, units))
                for value in found:
                    # The pairs stand in order, the last one above 0, without a common divisor.
                    self.same(list(value), [pair for pair in pairs_of(layout, units) if pair in value])
                    self.assertGreater(list(value.values())[-1], 0)
                    self.assertEqual(math.gcd(*value.values()), 1)
                    self.assertIs(shows_relation(layout, value), True)
                seen += len(found)
        self.assertGreater(seen, 60)
        self.same(list(relations(layout=DOUBLE, units=[])), [])

    def test_each_relation_is_a_sum_of_them(self):
        for layout in (FULL, LINE, DOUBLE):
            pairs = pairs_of(layout, layout.units)
            rows = [[value.get(pair, 0) for pair in pairs] for value in relations(layout, layout.units)]
            self.assertEqual(len(rows), rank_of(rows))
            self.assertEqual(len(rows), len(pairs) - rank_of([row_of(layout, pair) for pair in pairs]))

    def test_lookers_of_relations(self):
        chance = random.Random(2)
        seen = {True: 0, False: 0}
        for layout in SMALL[1:] + [FULL]:
            rows = list(relations(layout, layout.units))
            for value in rows:
                values = [value, {pair: -3 * number for pair, number in value.items()}, {}]
                values += [altered(value, chance, [value]) for _ in range(20)]
                for other in rows:
                    total = {pair: value.get(pair, 0) + 2 * other.get(pair, 0) for pair in {**value, **other}}
                    values += [total, {pair: number for pair, number in total.items() if number}]
                for one in values:
                    wanted = right_relation(layout, one)
                    self.assertIs(shows_relation(layout, one), wanted, one)
                    seen[wanted] += 1
        self.assertGreater(min(seen.values()), 60)
        for value in any_values():
            self.assertIs(shows_relation(FULL, value), value == {} and type(value) is dict)
        self.assertIs(shows_relation(SINGLE, {("block 0", False): -1, ("block 1", 0): -1, ("parity 0 0", 0): 1}), False)


class Agreed(Case):
    def test_agree(self):
        chance = random.Random(3)
        seen = {Agreeing: 0, Broken: 0}
        for layout in (SMALL + [FULL]) * 8:
            answers = spoilt_answers(chance, layout, chance.choice([0, 0, 1, 2]))
            units = [unit for unit in answers if chance.random() < 0.8]
            chance.shuffle(units)
            some = {unit: answers[unit] for unit in units}
            paper = agree(layout=layout, answers=some)
            seen[type(paper)] += 1
            self.assertTrue(right_agree(layout, some, paper))
            self.assertIs(shows_agree(layout, some, paper), True)
            self.assertIs(bool(paper), is_consistent(layout, units, some))
            if paper:
                self.assertTrue(is_in_lowest_terms((paper.bottom, paper.table)))
        self.assertGreater(min(seen.values()), 20)
        self.assertEqual(agree(FULL, {}), Agreeing(1, Table(TWO)))

    def test_answers_of_no_table_of_integers(self):
        # No table of integers has these answers: a multiple of a table does.
        answers = {"parity 0 0": (0,), "parity 0 1": (1,), "block 0": (0,)}
        paper = agree(LINE, answers)
        self.assertEqual(paper, Agreeing(1, Table(LINE.shape, {("a", 1): -1, ("a", 2): 1})))
        answers = {"parity 0 0": (0,), "parity 0 1": (1,), "block 1": (0,)}
        paper = agree(LINE, answers)
        self.assertEqual(paper, Agreeing(2, Table(LINE.shape, {("a", 0): -1, ("a", 2): 1})))
        self.assertIs(shows_agree(LINE, answers, Agreeing(6, 3 * paper.table)), True)
        self.assertIs(shows_agree(LINE, answers, Agreeing(6, paper.table)), False)
        self.assertIs(shows_agree(LINE, answers, Agreeing(-2, -paper.table)), False)
        self.assertIs(shows_agree(LINE, {}, Agreeing(7, paper.table)), True)
        self.assertIs(shows_agree(LINE, {}, Agreeing(0, paper.table)), False)

    def test_lowest_terms(self):
        # 2 a 3 and 3 a 4 make 0 together, so nothing is divided.
        layout = Layout(Shape(["a"], 5), Blocks(Every(1)), Stripes(6, 2))
        for first, second, bottom in ((0, 0, 1), (1, 2, 1), (1, 3, 2), (4, 7, 2)):
            answers = {"block 0": (0,), "block 2": (0,), "parity 0 0": (first,), "parity 0 1": (second,)}
            paper = agree(layout, answers)
            self.assertTrue(right_agree(layout, answers, paper))
            self.assertTrue(is_in_lowest_terms((paper.bottom, paper.table)))
            self.same(paper.bottom, bottom)
        table = Table(TWO, {("a", 0): 6, ("b", 1): -9})
        for many, bottom in ((6, 2), (4, 4), (9, 3), (3, 1)):
            told = in_lowest_pair(many, table)
            self.assertTrue(is_in_lowest_terms(told))
            self.same(told[0], bottom)
            self.assertEqual(many * told[1], bottom * table)

    def test_great_answers(self):
        table = Table(TWO, {place: 10 ** 50 + at for at, place in enumerate(TWO)})
        answers = answers_of(FULL, table)
        self.assertEqual(agree(FULL, answers), Agreeing(1, table))
        answers["page 0"] = (answers["page 0"][0] + 1,)
        self.assertTrue(right_agree(FULL, answers, agree(FULL, answers)))
        self.assertFalse(agree(FULL, answers))


class Found(Case):
    def test_finds_and_rights(self):
        seen = {}
        for layout in SMALL:
            for many in range(4):
                paper = finds(layout, many)
                seen[type(paper)] = seen.get(type(paper), 0) + 1
                self.assertTrue(right_finds(layout, many, paper))
                self.assertIs(shows_finds(layout, many, paper), True)
                self.assertIs(bool(paper), bool(covers(layout, min(many, len(layout)))))
                self.assertIs(bool(paper), all(is_rebuilt(layout, lot) for lot in lots_of(layout, many)))
                paper = rights(layout=layout, many=many)
                seen[type(paper)] = seen.get(type(paper), 0) + 1
                self.assertTrue(right_rights(layout, many, paper))
                self.assertIs(shows_rights(layout, many, paper), True)
                self.assertIs(bool(paper), all(is_rebuilt(layout, lot) for lot in lots_of(layout, 2 * many)))
        for kind in (Finds, Unfound, Rights, Unrighted):
            self.assertGreater(seen[kind], 8)

    def test_righted(self):
        chance = random.Random(4)
        seen = {Righted: 0, Unclear: 0, Hopeless: 0}
        for layout in SMALL * 8:
            many = chance.choice([0, 1, 1, 2, 3])
            answers = spoilt_answers(chance, layout, chance.randint(0, many + 1))
            paper = righted(layout, answers, many=many)
            seen[type(paper)] += 1
            self.assertTrue(right_righted(layout, answers, many, paper))
            self.assertIs(shows_righted(layout, answers, many, paper), True)
            fitting = [lot for lot in lots_of(layout, many)
                       if is_consistent(layout, [unit for unit in layout if unit not in lot], answers)]
            self.assertIs(type(paper) is Hopeless, not fitting)
            self.assertIs(bool(paper), type(paper) is Righted)
            if paper:
                self.assertTrue(is_in_lowest_terms((paper.bottom, paper.table)))
                self.assertTrue(all(is_rebuilt(layout, lot) for lot in fitting))
            if type(paper) is Unclear:
                self.assertTrue(is_in_lowest_terms(paper.one) and is_in_lowest_terms(paper.other))
        self.assertGreater(min(seen.values()), 8)

    def test_what_can_be_righted_is(self):
        chance = random.Random(5)
        for layout, many in ((DOUBLE, 1), (LINE, 1), (SMALL[-1], 1)):
            self.assertTrue(rights(layout, many))
            for _ in range(20):
                table = some_table(chance, layout, 10 ** 20)
                answers = answers_of(layout, table)
                unit = chance.choice(layout.units)
                answers[unit] = tuple(answer + 1 for answer in answers[unit])
                paper = righted(layout, answers, many)
                self.same([paper.bottom, paper.spoilt], [1, (unit,)])
                self.assertEqual(paper.table, table)

    def test_a_table_of_fractions_behind_answers(self):
        answers = {"block 0": (0,), "block 1": (0,), "block 2": (9,), "parity 0 0": (0,), "parity 0 1": (1,)}
        for many in range(4):
            paper = righted(LINE, answers, many)
            self.assertTrue(right_righted(LINE, answers, many, paper))
        layout = Layout(Shape(["a"], 4), Blocks(Every(1)), Stripes(4, 2), Pages(1), Buckets(4))
        answers = {"block 0": (5,), "block 1": (0,), "block 2": (0,), "block 3": (9,), "parity 0 0": (1,),
                   "parity 0 1": (2,), "page 0": (1,), "bucket 0": (1,)}
        paper = righted(layout, answers, 2)
        self.assertTrue(right_righted(layout, answers, 2, paper))
        # The first and the last block can be the wrong ones: then the last one is a third.
        thirds = Table(layout.shape, {("a", 0): 2, ("a", 3): 1})
        self.assertIs(type(paper), Unclear)
        self.assertIs(shows_righted(layout, answers, 2, Unclear(paper.one, (3, thirds))), paper.one != (3, thirds))
        self.assertIs(shows_righted(layout, answers, 2, Unclear((3, thirds), (6, 2 * thirds))), False)
        self.assertIs(shows_righted(layout, answers, 2, Unclear((3, thirds), (1, thirds))), False)

    def test_bounds_of_lots(self):
        shape = Shape(list("abcdef"), 4)
        few = Layout(shape, Blocks(Every(1)))
        more = Layout(shape, Blocks(Every(1)), Pages(1))
        table = Table(shape, {("a", 1): 4})
        self.assertEqual([math.comb(24, 3), math.comb(30, 2), math.comb(24, 2)], [2024, 435, 276])
        self.assertIs(type(finds(few, 2)), Unfound)
        self.raises(TooMany("losses", 2000), finds, few, 3)
        self.raises(TooMany("losses", 2000), shows_finds, few, 3, None)
        self.assertIs(type(rights(more, 1)), Unrighted)
        self.raises(TooMany("losses", 2000), rights, few, 2)
        self.raises(TooMany("losses", 2000), shows_rights, few, 2, None)
        self.assertIs(type(righted(few, answers_of(few, table), 2)), Unclear)
        self.raises(TooMany("losses", 2000), righted, few, answers_of(few, table), 3)
        self.raises(TooMany("losses", 2000), shows_righted, few, answers_of(few, table), 3, None)
        # Twenty-three units: 1771 lots of three.
        layout = Layout(Shape(["a", "b"], 8), Blocks(Every(1)), Pages(1), Cells(4))
        self.assertEqual([len(layout), math.comb(23, 3)], [23, 1771])
        self.assertIs(type(finds(layout, 3)), Unfound)
        self.assertIs(type(righted(layout, answers_of(layout, Table(layout.shape)), 3)), Unclear)
        # With fewer units than so many there is one lot, that of all.
        self.assertTrue(finds(Layout(TWO), 3))
        self.assertEqual(righted(Layout(TWO), {}, 3), Righted(1, Table(TWO), (), {(): Rebuilt({})}))
        one = Layout(Shape(["a"], 1), Buckets(1))
        self.assertTrue(right_righted(one, {"bucket 0": (4,)}, 3, righted(one, {"bucket 0": (4,)}, 3)))


class Altered(Case):
    def look(self, seen, shows, right, paper, chance, others):
        for value in [paper] + [altered(paper, chance, others) for _ in range(20)]:
            wanted = right(value)
            self.assertIs(shows(value), wanted, f"{value!r} {getattr(value, '__dict__', None)}")
            seen[wanted] += 1

    def test_papers_with_one_thing_otherwise(self):
        chance = random.Random(6)
        counts = [{True: 0, False: 0} for _ in range(4)]
        for layout in SMALL * 4:
            many = chance.choice([0, 1, 2])
            answers = spoilt_answers(chance, layout, chance.randint(0, many + 1))
            some = {unit: answers[unit] for unit in answers if chance.random() < 0.7}
            others = [*layout.units, 1, Table(layout.shape), (1, Table(layout.shape))]
            self.look(counts[0], lambda one: shows_agree(layout, some, one), lambda one: right_agree(layout, some, one),
                      agree(layout, some), chance, others)
            self.look(counts[1], lambda one: shows_finds(layout, many, one), lambda one: right_finds(layout, many, one),
                      finds(layout, many), chance, others)
            self.look(counts[2], lambda one: shows_rights(layout, many, one), lambda one: right_rights(layout, many, one),
                      rights(layout, many), chance, others)
            self.look(counts[3], lambda one: shows_righted(layout, answers, many, one),
                      lambda one: right_righted(layout, answers, many, one), righted(layout, answers, many), chance, others)
        for seen in counts:
            self.assertGreater(min(seen.values()), 50)

    def test_other_right_papers(self):
        one, other = Table(DAY, {("a", 0): 1, ("b", 0): 2}), Table(DAY, {("a", 0): 7, ("b", 0): 2})
        self.assertIs(shows_finds(SINGLE, 2, Unfound(one, other)), True)
        self.assertIs(shows_finds(SINGLE, 1, Unfound(one, other)), False)
        self.assertIs(shows_finds(SINGLE, 2, Unfound(one, one)), False)
        answers = {"block 0": (5,), "block 1": (4,), "parity 0 0": (8,)}
        pairs = [(1, Table(DAY, {("a", 0): a, ("b", 0): b})) for a, b in ((5, 4), (5, 3), (4, 4))]
        for one, other in itertools.product(pairs, pairs):
            self.assertIs(shows_righted(SINGLE, answers, 1, Unclear(one, other)), one != other)
            self.assertIs(shows_rights(SINGLE, 1, Unrighted(one[1], other[1], answers)), one != other)
        # The same table under two bottoms is no other one.
        twice = (2, 2 * pairs[0][1])
        self.assertIs(shows_righted(SINGLE, answers, 1, Unclear(pairs[0], twice)), False)
        self.assertIs(shows_righted(SINGLE, answers, 1, Unclear(pairs[1], twice)), True)
        paper = righted(DOUBLE, {"block 0": (5,), "block 1": (7,), "parity 0 0": (9,), "parity 0 1": (13,)}, 1)
        given = {"block 0": (5,), "block 1": (7,), "parity 0 0": (9,), "parity 0 1": (13,)}
        value = Righted(3, 3 * paper.table, paper.spoilt, paper.cases)
        self.assertIs(shows_righted(DOUBLE, given, 1, value), True)
        for spoilt in ((), ("block 0",), ("block 0", "block 1"), ["block 1"], ("block 1", "block 1")):
            value = Righted(1, paper.table, spoilt, paper.cases)
            self.assertIs(shows_righted(DOUBLE, given, 1, value), False)
        # Instead of a Rebuilt no Broken can stand, and the other way round.
        for lot in paper.cases:
            for case in (rebuilt(DOUBLE, lot), Broken({("block 0", 0): -1, ("block 1", 0): -1, ("parity 0 0", 0): 1})):
                value = Righted(1, paper.table, paper.spoilt, {**paper.cases, lot: case})
                self.assertIs(shows_righted(DOUBLE, given, 1, value), right_righted(DOUBLE, given, 1, value))

    def test_more_spoilt_units_than_can_be(self):
        # No table gives the answers of all units but one, so a table that gives those of all but two is none.
        answers = {"block 0": (1,), "block 1": (0,), "parity 0 0": (7,), "parity 0 1": (20,)}
        hopeless = righted(DOUBLE, answers, 1)
        self.assertIs(type(hopeless), Hopeless)
        for table in (Table(DAY, {("a", 0): 1}), Table(DAY), Table(DAY, {("b", 0): 7})):
            spoilt = wrong_units(DOUBLE, answers, (1, table))
            self.assertGreater(len(spoilt), 1)
            value = Righted(1, table, spoilt, hopeless.cases)
            self.assertIs(shows_righted(DOUBLE, answers, 1, value), False)
            self.assertIs(right_righted(DOUBLE, answers, 1, value), False)

    def test_any_values(self):
        answers = {"block 0": (5,), "block 1": (4,), "parity 0 0": (8,)}
        for value in any_values():
            self.assertIs(shows_agree(SINGLE, answers, value), False)
            self.assertIs(shows_finds(SINGLE, 1, value), False)
            self.assertIs(shows_rights(SINGLE, 1, value), False)
            self.assertIs(shows_righted(SINGLE, answers, 1, value), False)
            for other in any_values():
                for paper in (Agreeing(value, other), Broken(value), Finds(value), Unfound(value, other), Rights(value),
                              Unrighted(value, other, other), Unrighted(other, other, value), Hopeless(value),
                              Righted(value, other, other, other), Unclear(value, other), Righted(1, value, (), other)):
                    self.assertIs(shows_agree(SINGLE, answers, paper), False)
                    self.assertIs(shows_finds(SINGLE, 1, paper), False)
                    self.assertIs(shows_rights(SINGLE, 1, paper), False)
                    self.assertIs(shows_righted(SINGLE, answers, 1, paper), False)


class Errors(Case):
    def test_first_error(self):
        layout = ("layout", None, BadLayout("layout"))
        units = ("units", ["block 0", 5], BadUnit(5))
        answers = ("answers", {"block 0": (5, 4)}, BadVault("answers"))
        many = ("many", 4, BadCount(4))
        right = {"block 0": (5,), "block 1": (4,), "parity 0 0": (8,)}
        good = {"layout": SINGLE, "units": ["block 0"], "answers": right, "many": 1, "value": None}
        for call, names in ((lambda **named: list(relations(**named)), "layout units"), (agree, "layout answers"),
                            (finds, "layout many"), (rights, "layout many"), (righted, "layout answers many"),
                            (shows_relation, "layout value"), (shows_agree, "layout answers value"),
                            (shows_finds, "layout many value"), (shows_rights, "layout many value"),
                            (shows_righted, "layout answers many value")):
            given = {name: good[name] for name in names.split()}
            self.raises_first(call, given, [row for row in (layout, units, answers, many) if row[0] in given])

    def test_any_values(self):
        right = {"block 0": (5,), "block 1": (4,), "parity 0 0": (8,)}
        for value in any_values():
            if not isinstance(value, Layout):
                for call, given in ((lambda *g: next(relations(*g)), [[]]), (agree, [{}]), (finds, [1]), (rights, [1]),
                                    (righted, [{}, 1]), (shows_relation, [None]), (shows_agree, [{}, None]),
                                    (shows_finds, [1, None]), (shows_rights, [1, None]), (shows_righted, [{}, 1, None])):
                    self.raises(BadLayout("layout"), call, value, *given)
            if not isinstance(value, (list, tuple)):
                self.raises(BadUnit(None), lambda: next(relations(SINGLE, value)))
            if value != {}:
                self.raises(BadVault("answers"), agree, SINGLE, value)
                self.raises(BadVault("answers"), shows_agree, SINGLE, value, None)
            self.raises(BadVault("answers"), righted, SINGLE, value, 99)
            self.raises(BadVault("answers"), shows_righted, SINGLE, value, 99, None)
            for call, given in ((finds, [SINGLE]), (rights, [SINGLE]), (righted, [SINGLE, right])):
                if not (type(value) is int and 0 <= value <= 3):
                    self.raises(BadCount(value), call, *given, value)
            for call, given in ((shows_finds, [SINGLE]), (shows_rights, [SINGLE]), (shows_righted, [SINGLE, right])):
                if not (type(value) is int and 0 <= value <= 3):
                    self.raises(BadCount(value), call, *given, value, None)

    def test_wrong_answers(self):
        right = {"block 0": (5, 1), "block 1": (4, 0)}
        layout = Layout(TWO, Blocks(Every(2)))
        agree(layout, right)
        righted(layout, right, 1)
        for unit in right:
            for value in (None, [1, 2], (1,), (1, 2, 3), (1, True), (1, "2"), (1, None), "12", {0: 1, 1: 2}, right):
                for call in (lambda a: agree(layout, a), lambda a: righted(layout, a, 1),
                             lambda a: shows_agree(layout, a, None), lambda a: shows_righted(layout, a, 1, None)):
                    self.raises(BadVault("answers"), call, {**right, unit: value})
        for key in ("block 2", "page 0", "journal", None, 0, ("block 0",), ""):
            self.raises(BadVault("answers"), agree, layout, {**right, key: (1, 2)})
            self.raises(BadVault("answers"), righted, layout, {**right, key: (1, 2)}, 1)
        for unit in right:
            self.raises(BadVault("answers"), righted, layout, {unit: right[unit]}, 1)
            agree(layout, {unit: right[unit]})

    def test_arguments_stay(self):
        answers = {"parity 0 0": (8,), "block 1": (4,), "block 0": (5,)}
        units = ["parity 0 0", "block 0", "block 1", "block 0"]
        for call in (lambda: list(relations(SINGLE, units)), lambda: agree(SINGLE, answers),
                     lambda: righted(SINGLE, answers, 1)):
            self.assertEqual(call(), call())
        self.same(list(answers.items()), [("parity 0 0", (8,)), ("block 1", (4,)), ("block 0", (5,))])
        self.same(units, ["parity 0 0", "block 0", "block 1", "block 0"])
        paper = finds(SINGLE, 1)
        paper.rebuilts.clear()
        self.assertTrue(finds(SINGLE, 1).rebuilts)


class Papers(Case):
    def test_papers_of_any_values(self):
        classes = {Agreeing: "bottom table", Broken: "weights", Finds: "rebuilts", Unfound: "one other", Rights: "rebuilts",
                   Unrighted: "one other given", Righted: "bottom table spoilt cases", Unclear: "one other",
                   Hopeless: "cases"}
        for kind, names in classes.items():
            fields = names.split()
            for value in any_values():
                given = [value] + [[value]] * (len(fields) - 1)
                made = kind(*given)
                self.same([getattr(made, name) for name in fields], given)
                self.assertEqual(made, kind(**dict(zip(fields, given))))
                self.assertIs(bool(made), kind in (Agreeing, Finds, Rights, Righted))
                self.assertNotEqual(made, value)
                for at in range(len(fields)):
                    self.assertNotEqual(made, kind(*[[[value]] if k == at else one for k, one in enumerate(given)]))
                for other, more in classes.items():
                    if other is not kind and len(more.split()) == len(fields):
                        self.assertNotEqual(made, other(*given))
        self.raises(BadLayout("layout"), finds, OTHER, 1)


if __name__ == "__main__":
    unittest.main()
