"""Books: questions under names; what units tell of them, against a search through all lots; texts."""

import itertools
import random
import unittest

from rowvault.books import Book
from rowvault.checks import RESERVED
from rowvault.cuts import Every
from rowvault.errors import (
    BadBook, BadLayout, BadName, BadPart, BadRule, BadTable, BadText, BadUnit, NoName, Taken, TooMany, Untold,
)
from rowvault.kinds import Blocks, Buckets, Cells, Pages
from rowvault.layouts import Layout
from rowvault.parts import Part
from rowvault.questions import Question
from rowvault.shapes import Shape
from rowvault.tables import Table
from tests.helpers import OTHER, TWO, Case, any_values, is_of
from tests.lots import SMALL, mattering, prices_for
from tests.papers import all_lots, is_right_parted, tells_all
from tests.reading import changed

FULL = Layout(TWO, Blocks(Every(2)), Pages(1), Cells(2), Buckets(1))
FEW = Layout(TWO, Blocks(Every(2)), Buckets(1))
ASK = Question(TWO, {("b", 1): -1, ("a", 0): 2})
NAMES = ["a", "all", "b", "one", "read".upper().lower() + "s", "z", "zz", "abcdefgh"]


def is_name(value):
    return type(value) is str and 1 <= len(value) <= 8 and all("a" <= char <= "z" for char in value) \
        and value not in RESERVED


def some_question(chance, shape):
    return Question(shape, {place: chance.choice([0, 0, 1, -2, 10 ** 30]) for place in shape})


def some_pairs(chance, shape, many=4):
    return [(name, some_question(chance, shape)) for name in chance.sample(NAMES, chance.randint(0, many))]


class Held(Case):
    def test_books(self):
        chance = random.Random(1)
        for _ in range(60):
            shape = chance.choice([TWO, Shape(["a"], 3)])
            pairs = some_pairs(chance, shape)
            book, kept = Book(shape, *pairs), dict(pairs)
            self.assertIs(book.shape, shape)
            self.same(list(book), sorted(kept))
            self.same(len(book), len(kept))
            self.assertIs(bool(book), bool(kept))
            for name in NAMES:
                self.assertIs(name in book, name in kept)
                if name in kept:
                    self.assertIs(book[name], kept[name])
                else:
                    self.raises(NoName(name), book.__getitem__, name)
                    self.raises(NoName(name), book.without, name)
            table = Table(shape, {place: chance.randint(-9, 9) for place in shape})
            self.same(list(book(table).items()), [(name, kept[name](table)) for name in sorted(kept)])
            self.assertEqual(book(table=table), book(table))
            shuffled = list(pairs)
            chance.shuffle(shuffled)
            self.assertEqual(book, Book(shape, *shuffled))
            self.one_by_one(book, shape, shuffled)

    def one_by_one(self, book, shape, pairs):
        made = Book(shape)
        for name, question in pairs:
            made = made.with_question(name, Question.none(shape)).with_question(question=question, name=name)
        self.assertEqual(made, book)
        for name, _ in pairs:
            less = made.without(name=name)
            self.same(list(less), [other for other in made if other != name])
            self.assertNotEqual(less, made)
            made = less
        self.assertEqual(made, Book(shape))

    def test_operators(self):
        chance = random.Random(2)
        taken = 0
        for _ in range(120):
            one, other = dict(some_pairs(chance, TWO)), dict(some_pairs(chance, TWO))
            if chance.random() < 0.6:
                other.update({name: one[name] for name in list(one)[:2]})
            left, right = Book(TWO, *one.items()), Book(TWO, *other.items())
            unlike = sorted(name for name in one if name in other and one[name] != other[name])
            held = all(name in other and one[name] == other[name] for name in one)
            self.assertIs(left <= right, held)
            self.assertIs(left == right, one == other)
            if unlike:
                self.raises(Taken(unlike[0]), lambda: left | right)
                taken += 1
            else:
                self.assertEqual(left | right, Book(TWO, *{**one, **other}.items()))
            self.assertEqual(left, Book(TWO, *one.items()))
        self.assertGreater(taken, 10)
        empty = Book(TWO)
        self.assertTrue(empty <= empty and empty | empty == empty)

    def test_wrong_pairs(self):
        right = ("one", ASK)
        for value in any_values():
            if not isinstance(value, Shape):
                self.raises(BadBook("shape"), Book, value, None)
                self.raises(BadBook("shape"), Book.read, "x", value)
            if not (isinstance(value, tuple) and len(value) == 2):
                self.raises(BadBook("pair"), Book, TWO, right, value, ("one", ASK))
            elif not is_name(value[0]):
                self.raises(BadName(value[0]), Book, TWO, right, value, None)
            else:
                self.raises(BadBook("question"), Book, TWO, right, value, None)
            if not is_name(value):
                self.raises(BadName(value), Book, TWO, right, (value, None), ("one", ASK))
                self.raises(BadName(value), Book(TWO).with_question, value, None)
                self.raises(NoName(value), Book(TWO, right).__getitem__, value)
                self.raises(NoName(value), Book(TWO, right).without, value)
                self.assertIs(value in Book(TWO, right), False)
            if not is_of(value, Question, TWO):
                self.raises(BadBook("question"), Book, TWO, right, ("one", value))
                self.raises(BadBook("question"), Book(TWO, right).with_question, "one", value)
            if not is_of(value, Table, TWO):
                self.raises(BadTable("table"), Book(TWO, right), value)
                self.raises(BadTable("table"), Book(TWO), value)
            self.assertNotEqual(Book(TWO, right), value)
            for call in (lambda: Book(TWO, right) | value, lambda: Book(TWO, right) <= value):
                self.raises(BadBook("other"), call)
        self.raises(Taken("one"), Book, TWO, right, ("two", ASK), right, None)
        self.raises(BadBook("other"), lambda: Book(TWO) | Book(OTHER))
        self.raises(BadBook("other"), lambda: Book(TWO) <= Book(OTHER))
        self.assertNotEqual(Book(TWO), Book(OTHER))
        for name in RESERVED + ("a" * 9, "A", "a1", "", "a b"):
            self.raises(BadName(name), Book, TWO, (name, ASK))

    def test_arguments_stay(self):
        book, more = Book(TWO, ("one", ASK)), Book(TWO, ("two", ASK))
        answers = book(Table(TWO))
        answers.clear()
        self.same(book(Table(TWO)), {"one": 0})
        self.same([list(book | more), list(book), list(more)], [["one", "two"], ["one"], ["two"]])
        book.with_question("one", Question.none(TWO))
        self.assertIs(book["one"], ASK)
        units = ["bucket 1", "block 0", "bucket 1"]
        book.told_by(FEW, units)
        self.same(units, ["bucket 1", "block 0", "bucket 1"])


class Asked(Case):
    def books(self, seed, many):
        chance = random.Random(seed)
        for _ in range(many):
            layout = chance.choice(SMALL)
            pairs = []
            for name in chance.sample(NAMES, chance.randint(0, 3)):
                total = Question(layout.shape, {})
                for _, one in layout.answers([chance.choice(layout.units)] if len(layout) else []):
                    total = total + chance.randint(0, 2) * one
                pairs.append((name, total if chance.random() < 0.8 else Question(
                    layout.shape, {chance.choice(layout.shape.places): 1})))
            bare = chance.choice([None, Part(layout.shape, *[p for p in layout.shape if chance.random() < 0.3])])
            yield chance, layout, Book(layout.shape, *pairs), bare

    def test_told_by(self):
        seen = 0
        for chance, layout, book, bare in self.books(3, 120):
            units = [unit for unit in layout if chance.random() < 0.6]
            units = units + units[:1]
            chance.shuffle(units)
            wanted = tuple(name for name in sorted(book) if tells_all(layout, set(units), [book[name]], bare))
            self.same(book.told_by(layout, units, bare=bare), wanted)
            seen += len(wanted)
        self.assertGreater(seen, 40)

    def test_least_units(self):
        told = untold = 0
        for chance, layout, book, bare in self.books(4, 300):
            prices, asked = prices_for(chance, layout), []
            price = lambda unit: asked.append(unit) or prices[unit]
            missing = [name for name in sorted(book) if not tells_all(layout, layout.units, [book[name]], bare)]
            if missing:
                with self.assertRaises(Untold) as held:
                    book.least_units(layout, price, bare)
                self.assertTrue(is_right_parted(layout, layout.units, book[missing[0]], held.exception.paper, bare))
                self.same(asked, [])
                untold += 1
                continue
            questions = [book[name] for name in book]
            rows = [lot for lot in all_lots(mattering(layout, None, bare)) if tells_all(layout, lot, questions, bare)]
            least = min(sum(prices[unit] for unit in lot) for lot in rows)
            first = next(lot for lot in rows if sum(prices[unit] for unit in lot) == least)
            self.same(book.least_units(layout, price, bare=bare), first)
            self.same(asked, mattering(layout, None, bare))
            told += 1
        self.assertGreater(min(told, untold), 15)

    def test_no_questions(self):
        asked = []
        self.same(Book(TWO).least_units(FULL, lambda unit: asked.append(unit) or 1), ())
        self.same(asked, list(FULL.units))
        self.same(Book(TWO).told_by(FULL, []), ())
        self.raises(BadRule("price"), Book(TWO).least_units, FULL, lambda unit: True)

    def test_units_that_matter(self):
        shape = Shape(list("abc"), 4)
        twelve, thirteen = Layout(shape, Blocks(Every(1))), Layout(shape, Blocks(Every(1)), Buckets(4))
        book = Book(shape, ("all", Question.of(Part.whole(shape))))
        self.same(book.least_units(twelve, lambda unit: 1), twelve.units)
        for one in (book, Book(shape)):
            self.raises(TooMany("units", 12), one.least_units, thirteen, self.fail)
        bare = Part(shape, ("b", 2))
        self.same(book.least_units(thirteen, lambda unit: 1, bare), ("bucket 0",))
        self.same(book.told_by(thirteen, ["bucket 0"]), ("all",))
        # TooMany comes ahead of Untold.
        cells = Layout(shape, Cells(2), Buckets(1))
        self.raises(TooMany("units", 12), Book(shape, ("one", Question(shape, {("a", 0): 1}))).least_units, cells, self.fail)

    def test_prices(self):
        book = Book(TWO, ("one", ASK))
        for value in any_values() + [10 ** 9, 10 ** 9 + 1]:
            for wrong in ("block 0", "bucket 1"):
                price = lambda unit: value if unit == wrong else 1
                if type(value) is int and 0 <= value <= 10 ** 9:
                    book.least_units(FEW, price)
                else:
                    self.raises(BadRule("price"), book.least_units, FEW, price)

        def price(unit):
            raise KeyError(unit)
        with self.assertRaises(KeyError) as held:
            book.least_units(FEW, price)
        self.assertEqual(held.exception.args, ("block 0",))

        def later(unit):
            if unit == "bucket 1":
                raise KeyError(unit)
            return None
        # What price raises is listed ahead of BadRule.
        self.assertRaises(KeyError, book.least_units, FEW, later)

    def test_errors(self):
        book = Book(TWO, ("one", ASK))
        layout = ("layout", None, BadLayout("layout"))
        units = ("units", ["block 0", 5], BadUnit(5))
        bare = ("bare", Part(OTHER), BadPart("bare"))
        price = ("price", lambda unit: -1, BadRule("price"))
        good = {"layout": FEW, "units": [], "price": lambda unit: 1, "bare": None}
        for call, names in ((book.told_by, "layout units bare"), (book.least_units, "layout price bare")):
            given = {name: good[name] for name in names.split()}
            for first in (layout, ("layout", Layout(OTHER), BadLayout("shape"))):
                self.raises_first(call, given, [row for row in (first, units, bare, price) if row[0] in given])
        for value in any_values():
            if not isinstance(value, Layout):
                self.raises(BadLayout("layout"), book.told_by, value, None)
                self.raises(BadLayout("layout"), book.least_units, value, None)
            elif value.shape != TWO:
                self.raises(BadLayout("shape"), book.told_by, value, None)
                self.raises(BadLayout("shape"), book.least_units, value, None)
            if not isinstance(value, (list, tuple)):
                self.raises(BadUnit(None), book.told_by, FEW, value, 7)
            if value is not None and not is_of(value, Part, TWO):
                self.raises(BadPart("bare"), book.told_by, FEW, [], value)
                self.raises(BadPart("bare"), book.least_units, FEW, self.fail, value)


WEIGHTS = [str(number) for number in (1, -1, 2, 7, -10)]


def wrong_word(words, places):
    """The index of the first word that cannot stand in a text of a book, or None."""
    if words[0] == "none":
        return None if len(words) == 1 else 1
    at, last = 0, ""
    while True:
        if at >= len(words) or not is_name(words[at]) or words[at] <= last:
            return at
        last = words[at]
        if at + 1 >= len(words) or words[at + 1] != ":":
            return at + 1
        at = end_of_question(words, at + 2, places)
        if at < 0:
            return -at - 1
        if at == len(words):
            return None
        if words[at] != ";":
            return at
        at += 1


def end_of_question(words, at, places):
    """The index behind the question at an index; -1 less the index of the first wrong word."""
    if at < len(words) and words[at] == "-":
        return at + 1
    behind = -1
    while True:
        if at >= len(words) or words[at] not in WEIGHTS:
            return -1 - at
        rest = places[behind + 1:]
        if at + 1 >= len(words) or words[at + 1] not in [key for key, _ in rest]:
            return -2 - at
        days = [str(day) for key, day in rest if key == words[at + 1]]
        if at + 2 >= len(words) or words[at + 2] not in days:
            return -3 - at
        behind = places.index((words[at + 1], int(words[at + 2])))
        at += 3
        if at >= len(words) or words[at] != ",":
            return at
        at += 1


class Texts(Case):
    def test_texts(self):
        chance = random.Random(5)
        for _ in range(40):
            pairs = some_pairs(chance, TWO)
            book = Book(TWO, *pairs)
            wanted = " ; ".join(f"{name} : {question}" for name, question in sorted(pairs, key=lambda pair: pair[0]))
            self.same(str(book), wanted or "none")
            self.assertEqual(Book.read(text=str(book), shape=TWO), book)

    def test_changed_texts(self):
        texts = ["none", "a : -", "a : 1 a 0 ; b : -1 a 1 , 2 b 0 ; zz : -", "one : 7 b 1", "a : - ; aa : -10 a 0 , 1 b 1"]
        vocabulary = ["a", "b", "aa", "none", ":", ";", ",", "-", "0", "1", "2", "a b", "", "days", "+1", "01", "c"]
        seen = 0
        for text in texts:
            for words in changed(text.split(" "), vocabulary):
                other = " ".join(words)
                told = other.split(" ")
                wrong = wrong_word(told, list(TWO.places))
                if wrong is None:
                    self.assertEqual(str(Book.read(other, TWO)), other)
                else:
                    self.raises(BadText(0, wrong), Book.read, other, TWO)
                seen += wrong is not None
        self.assertGreater(seen, 500)

    def test_wrong_texts(self):
        for value in any_values():
            if not isinstance(value, str):
                self.raises(BadText(0, 0), Book.read, value, TWO)
        for text, word in (("", 0), ("none none", 1), ("a", 1), ("a :", 2), ("a : 1", 3), ("a : 1 a", 4), ("a : 0 a 0", 2),
                           ("a : - ;", 4), ("a : - ; a : -", 4), ("b : - ; a : -", 4), ("a : 1 a 0 ,", 6),
                           ("a : 1 a 0 , 1 a 0", 8), ("block : -", 0), ("a : - ; none", 4), ("a : - ; none : -", 4),
                           ("A : -", 0), ("a : - , 1 a 0", 3), ("zzzzzzzz : - ;", 4), ("a  : -", 1)):
            self.raises(BadText(0, word), Book.read, text, TWO)
        self.raises_first(Book.read, {"text": "none", "shape": TWO},
                          [("shape", None, BadBook("shape")), ("text", "x", BadText(0, 1))])
        great = 10 ** 700 + 7
        text = f"a : {great} a 0"
        self.same(str(Book.read(text, TWO)), text)

    def test_all_pairs_of_names(self):
        for one, other in itertools.product(NAMES, NAMES):
            text = f"{one} : - ; {other} : 1 a 0"
            if one < other:
                self.same(list(Book.read(text, TWO)), [one, other])
            else:
                self.raises(BadText(0, 4), Book.read, text, TWO)


if __name__ == "__main__":
    unittest.main()
