"""Polys, against sums reckoned in the tests; what units tell of them, against directions; the looker."""

import itertools
import math
import random
import unittest

from rowvault.errors import BadLayout, BadPart, BadPoly, BadRule, BadTable, BadText, BadUnit, TooMany
from rowvault.cuts import Every
from rowvault.kinds import Blocks, Buckets, Cells, Pages
from rowvault.layouts import Layout
from rowvault.look_polys import shows_told_poly
from rowvault.parts import Part
from rowvault.polys import Poly, ToldPoly, told_poly, work_out_poly
from rowvault.questions import Question
from rowvault.shapes import Shape
from rowvault.tables import Table
from rowvault.told import Parted
from tests.helpers import OTHER, TWO, Case, any_values, is_int, is_of, is_place, reduced
from tests.lost import SMALL
from tests.papers import altered, open_places
from tests.reading import WHOLE, check_reads

FULL = Layout(TWO, Blocks(Every(2)), Pages(1), Cells(2), Buckets(1))


def products_of(shape):
    """All products, in order."""
    places = list(shape)
    return [(), *[(place,) for place in places], *itertools.combinations_with_replacement(places, 2)]


def value_of(terms, table):
    return sum(number * math.prod(table[place] for place in product) for product, number in terms.items())


def some_terms(chance, shape, most=2):
    rows = [product for product in products_of(shape) if len(product) <= most]
    return {chance.choice(rows): chance.choice([0, 1, -1, 2, 7, -10 ** 20]) for _ in range(chance.randint(0, 6))}


def some_table(chance, shape):
    return Table(shape, {place: chance.choice([0, 1, -1, 2, 3, -5]) for place in shape})


def is_product(value, shape):
    if type(value) is not tuple or len(value) > 2 or not all(is_place(place, shape) for place in value):
        return False
    return len(value) < 2 or shape.places.index(value[0]) <= shape.places.index(value[1])


class Made(Case):
    def test_terms_degree_and_order(self):
        chance = random.Random(1)
        for _ in range(200):
            shape = chance.choice([TWO, Shape(["a"], 1), Shape(list("abc"), 3)])
            terms = some_terms(chance, shape)
            kept = dict(terms)
            poly = Poly(shape=shape, terms=terms)
            self.assertEqual(terms, kept)
            nonzero = {product: number for product, number in terms.items() if number}
            self.assertEqual(poly.terms, nonzero)
            self.same(list(poly), [product for product in products_of(shape) if product in nonzero])
            self.same([len(poly), bool(poly)], [len(nonzero), bool(nonzero)])
            self.same(poly.degree, max((len(product) for product in nonzero), default=0))
            table = some_table(chance, shape)
            self.same(poly(table), value_of(terms, table))
            for product in products_of(shape)[:20]:
                self.same(poly[product], terms.get(product, 0))
            terms[()] = 99
            self.assertEqual(poly.terms, nonzero)
            self.assertTrue(poly.shape == shape)

    def test_static_methods(self):
        question = Question(TWO, {("a", 0): 2, ("b", 1): -1})
        self.assertEqual(Poly.of(question), Poly(TWO, {(("a", 0),): 2, (("b", 1),): -1}))
        self.assertEqual(Poly.of(Question(TWO, {})), Poly(TWO, {}))
        self.assertEqual(Poly.integer(shape=TWO, value=-7), Poly(TWO, {(): -7}))
        self.assertEqual(Poly.integer(TWO, 0), Poly(TWO, {}))
        for value in any_values():
            if not isinstance(value, Question):
                self.raises(BadPoly("question"), Poly.of, value)
            if not isinstance(value, Shape):
                self.raises(BadPoly("shape"), Poly.integer, value, None)
                self.raises(BadPoly("shape"), Poly, value, None)
            if not is_int(value):
                self.raises(BadPoly("value"), Poly.integer, TWO, value)

    def test_wrong_terms(self):
        wrong = [5, None, [], [((), 1)], "x", {"a": 1}, {(): True}, {(): 1.5}, {(): None}, {("a", 0): 1}, {(("a", 2),): 1},
                 {(("a", True),): 1}, {(("b", 0), ("a", 0)): 1}, {(("a", 1), ("a", 0)): 1}, {(("a", 0),) * 3: 1},
                 {((), ()): 1}, {((("a", 0),),): 1}, {(("a", 0), None): 1}, {None: 1}, {(("c", 0),): 0}, {(("a", 0), ("a", 0)): "1"}]
        for value in wrong:
            self.raises(BadPoly("terms"), Poly, TWO, value)
        for value in any_values():
            if not (type(value) is dict and all(is_product(one, TWO) for one in value) and all(map(is_int, value.values()))):
                self.raises(BadPoly("terms"), Poly, TWO, value)

    def test_wrong_products_and_tables(self):
        poly = Poly(TWO, {(): 5, (("a", 0),): 1})
        for value in any_values() + [([1],), (("a", 0), ["b"]), ({},), ((("a", 0)), ("a", 0), ("a", 0)), (("b", 0), ("a", 1))]:
            if not is_product(value, TWO):
                self.raises(BadPoly("product"), poly.__getitem__, value)
            if not is_of(value, Table, TWO):
                self.raises(BadTable("table"), poly, value)

    def test_equality(self):
        one = Poly(TWO, {(): 1})
        self.assertEqual(one, Poly(TWO, {(): 1, (("a", 0),): 0}))
        for other in [Poly(OTHER, {(): 1}), Poly(TWO, {(): 2}), Poly(TWO, {}), *any_values()]:
            self.assertIs(one == other, False)
        self.assertNotEqual(Poly(TWO, {}), Poly(OTHER, {}))


class Operators(Case):
    def test_against_values_of_tables(self):
        chance = random.Random(2)
        for _ in range(150):
            shape = chance.choice([TWO, Shape(["a"], 2), Shape(list("abc"), 1)])
            left, right = some_terms(chance, shape, chance.choice([1, 2])), some_terms(chance, shape, chance.choice([0, 1, 2]))
            one, other, number = Poly(shape, left), Poly(shape, right), chance.choice([0, 1, -1, 3, 10 ** 30])
            table = some_table(chance, shape)
            a, b = value_of(left, table), value_of(right, table)
            self.same([(one + other)(table), (one - other)(table), (-one)(table)], [a + b, a - b, -a])
            self.same([(one + number)(table), (one - number)(table)], [a + number, a - number])
            self.same([(number + one)(table), (number - one)(table)], [number + a, number - a])
            self.same([(one * number)(table), (number * one)(table)], [a * number, a * number])
            if one.terms and other.terms and one.degree + other.degree > 2:
                self.raises(TooMany("degree", 2), lambda: one * other)
                continue
            both = one * other
            self.same(both(table), a * b)
            for product in both:
                self.assertTrue(is_product(product, shape))
            self.assertEqual(both, other * one)
            self.assertEqual(one - one, Poly(shape, {}))

    def test_nothing_times_anything(self):
        square = Poly(TWO, {(("a", 0), ("b", 0)): 3})
        self.assertEqual(square * Poly(TWO, {}), Poly(TWO, {}))
        self.assertEqual(Poly(TWO, {}) * square, Poly(TWO, {}))
        self.assertEqual(square * Poly.integer(TWO, 4), Poly(TWO, {(("a", 0), ("b", 0)): 12}))
        line = Poly(TWO, {(("a", 0),): 1})
        self.raises(TooMany("degree", 2), lambda: square * line)
        self.raises(TooMany("degree", 2), lambda: line * square)
        # The degree of the factors counts, also where the product would be 0.
        self.raises(TooMany("degree", 2), lambda: (square + line) * line)

    def test_wrong_values(self):
        poly = Poly(TWO, {(("a", 0),): 1})
        for value in any_values() + [Poly(OTHER, {})]:
            if is_int(value):
                continue
            for call in (lambda: poly + value, lambda: poly - value, lambda: poly * value):
                self.raises(BadPoly("other"), call)
        for value in (None, True, "x", 1.5, (1,)):
            for call in (lambda: value * poly, lambda: value + poly, lambda: value - poly):
                self.raises(BadPoly("other"), call)
        self.assertEqual(poly, Poly(TWO, {(("a", 0),): 1}))


class Texts(Case):
    def test_texts_and_read(self):
        chance = random.Random(3)
        for _ in range(100):
            shape = chance.choice([TWO, Shape(["a"], 1), Shape(list("abc"), 2)])
            poly = Poly(shape, some_terms(chance, shape))
            rows = [" ".join([str(number), " * ".join(f"{key} {day}" for key, day in product)]).strip()
                    for product, number in [(product, poly.terms[product]) for product in poly]]
            self.same(str(poly), " , ".join(rows) if rows else "-")
            self.assertEqual(Poly.read(str(poly), shape), poly)
            self.assertEqual(Poly.read(text=str(poly), shape=shape), poly)

    def test_which_words_can_stand(self):
        for shape in (Shape(["a"], 1), Shape(["a"], 2), Shape(["a", "b"], 1)):
            words = [[f"{key} {day}" for key, day in product] for product in products_of(shape)]
            texts = []
            for many in range(1, len(words) + 1):
                for rows in itertools.combinations(words, many):
                    texts.append(" , ".join(" * ".join(row).join(["N ", ""]).strip() for row in rows))
            wholes = {tuple(text.split(" ")) for text in texts} | {("-",)}
            chosen = ["-", "5", "-3 a 0", "2 a 0 * a 0", texts[-1].replace("N", "7"), texts[len(texts) // 2].replace("N", "-1")]
            chosen += ["4 , 1 a 0 , 2 a 0 * a 0"]
            if len(shape) > 1:
                (key, day), (second, other) = shape.places
                chosen += [f"1 {key} {day} * {second} {other}", f"1 {second} {other} , 3 {key} {day} * {second} {other}"]
                chosen += [f"9 {key} {day} * {second} {other} , 3 {second} {other} * {second} {other}"]
            vocabulary = ["-", ",", "*", "0", "1", "a", "b", "5", "07", "x", "", "-2"]
            check_reads(self, lambda text: Poly.read(text, shape), chosen, vocabulary, wholes, norm=self.numbers)

    @staticmethod
    def numbers(words):
        """The words with N for each integer other than 0 that begins a term."""
        return tuple("N" if (at == 0 or words[at - 1] == ",") and WHOLE.fullmatch(word) and word != "0" else word
                     for at, word in enumerate(words))

    def test_no_strings_and_no_shapes(self):
        for value in any_values():
            if not isinstance(value, Shape):
                self.raises(BadPoly("shape"), Poly.read, 5, value)
            if not isinstance(value, str):
                self.raises(BadText(0, 0), Poly.read, value, TWO)


def directions_of(layout, units, places):
    """A basis of the directions along which the answers stand still, over fractions, by places."""
    rows, leads = reduced([[one[place] for place in places] for unit in units for one in layout[unit]])
    found = []
    for free in [at for at in range(len(places)) if at not in leads]:
        found.append({places[free]: 1, **{places[lead]: -row[free] for lead, row in zip(leads, rows)}})
    return found


def stands_still(poly, directions, places):
    """Whether a poly stands still along all sums of directions: its slope is 0 at all tables."""
    def term(one, other):
        key = (one, other) if (one, other) in poly.terms or one == other else (other, one)
        return poly.terms.get(key, 0) * (2 if one == other else 1)
    for direction in directions:
        if sum(poly.terms.get((place,), 0) * step for place, step in direction.items()) != 0:
            return False
        for place in places:
            if sum(term(place, other) * step for other, step in direction.items()) != 0:
                return False
    return True


def without_bare(poly, places):
    return Poly(poly.shape, {product: number for product, number in poly.terms.items() if all(one in places for one in product)})


def right_told_poly(layout, units, poly, value, bare=None):
    """As the document tells it, over any values."""
    places = open_places(layout.shape, bare)
    units = [unit for unit in layout.units if unit in units]
    if type(value) is Parted:
        one, other = value.one, value.other
        if not is_of(one, Table, layout.shape) or not is_of(other, Table, layout.shape):
            return False
        if any(table[place] for table in (one, other) for place in layout.shape if place not in places):
            return False
        if any(answer(one) != answer(other) for unit in units for answer in layout[unit]):
            return False
        return value_of(poly.terms, one) != value_of(poly.terms, other)
    if type(value) is not ToldPoly or not is_int(value.bottom) or value.bottom < 1 or type(value.terms) is not dict:
        return False
    keys = [(unit, index) for unit in units for index in range(len(layout[unit]))]
    total = {}
    for key, number in value.terms.items():
        if type(key) is not tuple or len(key) > 2 or not is_int(number) or number == 0:
            return False
        if any(type(one) is not tuple or one not in keys or not is_int(one[1]) for one in key):
            return False
        if [keys.index(one) for one in key] != sorted(keys.index(one) for one in key):
            return False
        weights = [layout[unit][index].weights for unit, index in key]
        for row in itertools.product(*[list(one.items()) for one in weights]):
            if all(place in places for place, _ in row):
                product = tuple(sorted((place for place, _ in row), key=layout.shape.places.index))
                total[product] = total.get(product, 0) + number * math.prod(weight for _, weight in row)
    wanted = {product: value.bottom * number for product, number in without_bare(poly, places).terms.items()}
    return {product: number for product, number in total.items() if number} == wanted


def some_asked(seed, many):
    """Layouts, units, polys that are told more often than not, bare places."""
    chance = random.Random(seed)
    for _ in range(many):
        layout = chance.choice([one for one in SMALL if len(one)])
        shape = layout.shape
        units = [unit for unit in layout if chance.random() < 0.6]
        bare = chance.choice([None, None, Part(shape, *[place for place in shape if chance.random() < 0.3])])
        poly = Poly.integer(shape, chance.choice([0, 0, 3]))
        for _ in range(chance.randint(1, 3)):
            one, other = some_line(chance, layout, units), some_line(chance, layout, units)
            poly = poly + chance.choice([one * other, one * one, one, 2 * one * other])
        if chance.random() < 0.2:
            poly = poly + Poly(shape, some_terms(chance, shape))
        yield layout, units, poly, bare, chance


def some_line(chance, layout, units):
    total = Question(layout.shape, {})
    for _, one in layout.answers(units if chance.random() < 0.8 else layout.units):
        total = total + chance.choice([0, 0, 1, -1, 2]) * one
    return Poly.of(total) + chance.choice([0, 0, 5])


class Told(Case):
    def test_told_and_parted(self):
        seen = {}
        for layout, units, poly, bare, chance in some_asked(4, 420):
            places = open_places(layout.shape, bare)
            if len({place for product in without_bare(poly, places) for place in product}) > 12:
                continue
            paper = told_poly(layout, units, poly, bare)
            held = stands_still(without_bare(poly, places), directions_of(layout, units, places), places)
            self.assertIs(bool(paper), held)
            self.assertTrue(right_told_poly(layout, units, poly, paper, bare))
            self.assertIs(shows_told_poly(layout, units, poly, paper, bare), True)
            case = (held, bare is not None, bool(poly.degree == 2))
            seen[case] = seen.get(case, 0) + 1
            if held:
                table = Table(layout.shape, {place: chance.randint(-9, 9) for place in places})
                answers = {unit: tuple(one(table) for one in layout[unit]) for unit in units}
                self.same(work_out_poly(paper, {**answers, "more": None}), poly(table))
        for case in itertools.product((True, False), (True, False)):
            self.assertGreater(seen.get((*case, True), 0), 10, case)

    def test_products_squares_and_sums_of_squares(self):
        chance = random.Random(5)
        for _ in range(120):
            layout = chance.choice(SMALL[1:6])
            units = [unit for unit in layout if chance.random() < 0.6]
            rows = [some_line(chance, layout, units) for _ in range(3)]
            rows = [row - row[()] for row in rows]
            told = [bool(told_poly(layout, units, row)) for row in rows]
            if rows[0] and rows[1]:
                self.assertIs(bool(told_poly(layout, units, rows[0] * rows[1])), told[0] and told[1])
            self.assertIs(bool(told_poly(layout, units, sum([row * row for row in rows[1:]], rows[0] * rows[0]))), all(told))

    def test_twelve_places(self):
        shape = Shape(list("abc"), 8)
        layout = Layout(shape, Buckets(8))
        squares = [Poly(shape, {(place, place): 1}) for place in shape]
        twelve = sum(squares[1:12], squares[0])
        self.assertFalse(told_poly(layout, layout.units, twelve))
        thirteen = twelve + Poly(shape, {(shape.places[12],): 1})
        self.raises(TooMany("places", 12), told_poly, layout, layout.units, thirteen)
        # Neither bare places nor products with them count.
        self.assertFalse(told_poly(layout, layout.units, thirteen, Part(shape, shape.places[0])))
        crossed = twelve + Poly(shape, {(shape.places[0], shape.places[12]): 1})
        self.raises(TooMany("places", 12), told_poly, layout, layout.units, crossed)
        self.assertFalse(told_poly(layout, layout.units, crossed, Part(shape, shape.places[12])))
        self.assertIs(shows_told_poly(layout, layout.units, thirteen, Parted(Table(shape), Table(shape))), False)
        step = Table(shape, {shape.places[0]: 1, shape.places[20]: -1})
        self.assertIs(shows_told_poly(layout, layout.units, thirteen, Parted(Table(shape), step)), True)

    def test_integers_and_nothing(self):
        self.assertEqual(told_poly(FULL, [], Poly.integer(TWO, -7)), ToldPoly(1, {(): -7}))
        self.assertEqual(told_poly(FULL, [], Poly(TWO, {})), ToldPoly(1, {}))
        self.assertEqual(work_out_poly(ToldPoly(1, {(): -7}), {}), -7)
        self.assertEqual(told_poly(FULL, [], Poly(TWO, {(("a", 0), ("b", 0)): 1}), Part(TWO, ("b", 0))), ToldPoly(1, {}))

    def test_errors_in_their_order(self):
        poly = Poly(TWO, {(): 1})
        good = {"layout": FULL, "units": ["block 0"], "poly": poly, "bare": None}
        wrong = [("layout", None, BadLayout("layout")), ("units", ["block 0", "block 2"], BadUnit("block 2")),
                 ("poly", Poly(OTHER, {}), BadPoly("poly")), ("bare", Part(OTHER), BadPart("bare"))]
        self.raises_first(told_poly, good, wrong)
        self.raises_first(shows_told_poly, {**good, "value": None}, wrong)
        for value in any_values():
            self.raises(BadPoly("poly"), told_poly, FULL, (), value, 5)
            if not isinstance(value, (list, tuple)):
                self.raises(BadUnit(None), shows_told_poly, FULL, value, None, None)
            if value is not None and not is_of(value, Part, TWO):
                self.raises(BadPart("bare"), told_poly, FULL, (), poly, value)
            if not isinstance(value, ToldPoly):
                self.raises(BadRule("paper"), work_out_poly, value, None)
            self.assertIs(shows_told_poly(FULL, ["block 0"], poly, value), False)


class Looker(Case):
    def test_papers_with_one_thing_otherwise(self):
        seen = {True: 0, False: 0}
        for layout, units, poly, bare, chance in some_asked(6, 120):
            places = open_places(layout.shape, bare)
            if len({place for product in without_bare(poly, places) for place in product}) > 12:
                continue
            paper = told_poly(layout, units, poly, bare)
            values = [altered(paper, chance, list(layout.units)) for _ in range(12)]
            if paper:
                values.append(ToldPoly(paper.bottom * 3, {key: 3 * number for key, number in paper.terms.items()}))
            else:
                more = some_table(chance, layout.shape) & Part(layout.shape, *places)
                values += [Parted(paper.other, paper.one), Parted(paper.one + more, paper.other + more)]
            for value in values:
                right = right_told_poly(layout, units, poly, value, bare)
                self.assertIs(shows_told_poly(layout, units, poly, value, bare), right, getattr(value, "__dict__", value))
                seen[right] += 1
        self.assertGreater(min(seen.values()), 60)

    def test_other_right_papers(self):
        square = Poly(TWO, {(("a", 0), ("a", 0)): 1})
        at, page, block = ("block 0", 0), ("page 0", 0), ("block 0", 1)
        for terms in ({(at, at): 1}, {(at, page): 1, (at, block): -1}):
            terms = {tuple(sorted(key, key=lambda one: (FULL.units.index(one[0]), one[1]))): number for key, number in terms.items()}
            self.assertIs(shows_told_poly(FULL, ["page 0", "block 0"], square, ToldPoly(1, terms)), True)
        for terms in ({(page, at): 1, (at, block): -1}, {(at, at): 1, (page, page): 0}, {(at, at): True}, {(at, at): 2}):
            self.assertIs(shows_told_poly(FULL, ["page 0", "block 0"], square, ToldPoly(1, terms)), False)
        self.assertIs(shows_told_poly(FULL, ["page 0"], square, ToldPoly(1, {(at, at): 1})), False)
        # Three products of three answers that make 0 together are too many answers all the same.
        terms = {(at, at): 1, (at, at, page): 1, (at, at, at): -1, (at, at, block): -1}
        self.assertIs(shows_told_poly(FULL, ["page 0", "block 0"], square, ToldPoly(1, terms)), False)

    def test_equal_papers(self):
        self.assertEqual(ToldPoly(bottom=1, terms=2), ToldPoly(1, 2))
        for other in [ToldPoly(1, 3), ToldPoly(2, 2), *any_values()]:
            self.assertNotEqual(ToldPoly(1, 2), other)


if __name__ == "__main__":
    unittest.main()
