"""Searches through lots of many units, and those that are settled early: their answers, and that they are quick."""

import itertools
import random
import time
import unittest

from rowvault.books import Book
from rowvault.cuts import Every, Leads, Sizes
from rowvault.errors import TooMany
from rowvault.kinds import Blocks, Buckets, Cells, Pages, Stripes
from rowvault.layouts import Layout
from rowvault.losses import least_help
from rowvault.parts import Part
from rowvault.questions import Question
from rowvault.readings import least_behind, least_reading, musts, partings, readings
from rowvault.shapes import Shape
from rowvault.sites import spread, weak_lots
from rowvault.spoils import Unfound, Unrighted, finds, righted, rights
from rowvault.tables import Table
from tests.helpers import Case
from tests.lots import Tried, mattering
from tests.lost import is_rebuilt
from tests.papers import all_lots

PAIRED = Layout.read("shape a b c days 4\nblocks keys every 1\nbuckets 4")
STRIPED = Layout.read("shape a b c days 3\nblocks keys every 1\nstripes 4 1")
PAGED = Layout.read("shape a b days 4\nblocks keys every 1\npages 2\nbuckets 1")
PLAIN = Layout.read("shape a b c days 8\nblocks keys every 1")
SUMMED = Layout.read("shape a b c days 2\nblocks keys every 1\nbuckets 1")


def drawn_layouts(seed, many, low, high):
    """Drawn layouts with so many units that matter."""
    chance = random.Random(seed)
    while many:
        shape = Shape(list("abcdef")[:chance.randint(1, 4)], chance.randint(1, 6))
        kinds = [Blocks(chance.choice([Every(chance.randint(1, 3)), Leads(), Sizes(1, 2)]), chance.choice(["keys", "days"]))]
        kinds += [kind for kind in (Pages(chance.randint(1, 2)), Cells(chance.randint(2, 6)), Buckets(chance.randint(1, 3)),
                                    Stripes(chance.randint(2, 4), chance.randint(1, 2))) if chance.random() < 0.45]
        try:
            layout = Layout(shape, *kinds[chance.random() < 0.2 and not isinstance(kinds[-1], Stripes):])
        except TooMany:
            continue
        if low <= len(layout) <= high:
            many -= 1
            yield layout


def questions_for(chance, layout):
    places = layout.shape.places
    yield Question(layout.shape, {chance.choice(places): 1})
    yield Question(layout.shape, {place: chance.choice([0, 0, 1, -1, 2]) for place in places})
    total = Question(layout.shape, {})
    for _, one in layout.answers(chance.sample(layout.units, 2)):
        total = total + chance.randint(-1, 2) * one
    yield total


def times_of(call):
    """Some times of a call, in milliseconds."""
    times = []
    for _ in range(9):
        start = time.perf_counter()
        call()
        times.append((time.perf_counter() - start) * 1000)
    return times


def steps():
    """What takes some 6 milliseconds where the bounds were taken."""
    total = 0
    for number in range(100000):
        total = total + number
    return total


class Quick(Case):
    def least_time(self, call):
        """The least of some times of a call, less where the machine is slow: what else it does only adds to it."""
        return min(times_of(call)) / max(1, min(times_of(steps)) / 6)

    def test_lots(self):
        question = Question(PAIRED.shape, {("b", 1): 1, ("b", 2): 1})
        bare = Part(PAIRED.shape, ("a", 0))
        others = tuple(f"block {at}" for at in (1, 2, 3, 4, 7, 8, 9, 10, 11)) + ("bucket 0",)
        self.same(list(readings(PAIRED, question, bare)), [("block 5", "block 6"), others])
        pairs = [tuple(sorted(pair, key=PAIRED.units.index)) for pair in itertools.product(["block 5", "block 6"], others)]
        pairs = sorted(pairs, key=lambda pair: [PAIRED.units.index(unit) for unit in pair])
        self.same(list(partings(PAIRED, question, bare)), pairs)
        place = Question(STRIPED.shape, {("c", 2): 1})
        self.same(list(readings(STRIPED, place)), [("block 8",), ("parity 2 0",)])
        self.same(list(partings(STRIPED, place)), [("block 8", "parity 2 0")])
        self.same(least_help(PAGED, ["bucket 0"], "bucket 0", len).units, ("block 0", "block 4"))
        calls = [lambda: list(readings(PAIRED, question, bare)), lambda: list(partings(PAIRED, question, bare)),
                 lambda: list(readings(STRIPED, place)), lambda: list(partings(STRIPED, place)),
                 lambda: least_help(PAGED, ["bucket 0"], "bucket 0", len), lambda: musts(PAIRED, question, bare),
                 lambda: least_reading(PAIRED, question, len, bare), lambda: least_behind(STRIPED, place, len, 1),
                 lambda: list(weak_lots(STRIPED)), lambda: Book(STRIPED.shape, ("one", place)).least_units(STRIPED, len)]
        for call in calls:
            self.assertLess(self.least_time(call), 4)

    def test_settled_early(self):
        self.assertIs(type(finds(PLAIN, 1)), Unfound)
        self.assertIs(type(rights(PLAIN, 1)), Unrighted)
        self.assertIs(type(finds(SUMMED, 3)), Unfound)
        self.assertLess(self.least_time(lambda: finds(PLAIN, 1)), 2)
        self.assertLess(self.least_time(lambda: rights(PLAIN, 1)), 5)
        self.assertLess(self.least_time(lambda: finds(SUMMED, 3)), 2)
        answers = {unit: tuple(one(Table(PLAIN.shape)) for one in PLAIN[unit]) for unit in PLAIN}
        self.assertFalse(righted(PLAIN, answers, 2))
        self.assertLess(self.least_time(lambda: righted(PLAIN, answers, 2)), 5)
        layout = Layout.read("shape a b days 2\nblocks keys every 1\npages 1\nbuckets 1")
        self.assertTrue(spread(layout, 4, 2))
        self.assertLess(self.least_time(lambda: spread(layout, 4, 2)), 20)


class Drawn(Case):
    """Layouts of many units, against a plain search through all lots."""

    def test_readings_and_partings(self):
        chance = random.Random(7)
        kinds = set()
        for layout in drawn_layouts(8, 14, 9, 12):
            for question in list(questions_for(chance, layout))[:2 if len(layout) > 10 else 3]:
                bare = chance.choice([None, Part(layout.shape, *[place for place in layout.shape if chance.random() < 0.2])])
                tried = Tried(layout, question, bare, mattering(layout, None, bare))
                self.same(list(readings(layout, question, bare)), tried.readings())
                self.same(list(partings(layout, question, bare)), tried.partings())
                kinds.add(min(len(tried.readings()), 4))
        self.assertTrue({0, 1, 4} <= kinds)

    def test_just_twelve_units_and_one_more(self):
        question = Question(PAIRED.shape, {("b", 1): 1})
        self.raises(TooMany("units", 12), lambda: list(readings(PAIRED, question)))
        self.raises(TooMany("units", 12), lambda: list(partings(PAIRED, question)))
        self.assertEqual(len(mattering(STRIPED, None, None)), 12)

    def test_weak_lots(self):
        for layout in drawn_layouts(9, 8, 6, 8):
            lots = all_lots(mattering(layout, None, None))
            whole = {lot: is_rebuilt(layout, lot) for lot in lots}
            expected = [lot for lot in lots if not whole[lot] and all(whole[lot[:k] + lot[k + 1:]] for k in range(len(lot)))]
            self.same(list(weak_lots(layout)), expected)


if __name__ == "__main__":
    unittest.main()
