"""Sites, against a search through all tuples and ways; texts; papers about sites, right ones and wrong ones."""

import itertools
import random
import unittest

from rowvault.cuts import Every
from rowvault.errors import BadCount, BadLayout, BadQuestion, BadSites, BadText, BadUnit, TooMany
from rowvault.kinds import Blocks, Buckets, Cells, Pages, Stripes
from rowvault.layouts import Layout
from rowvault.losses import rebuilt
from rowvault.look_sites import shows_at_sites, shows_bearing, shows_bears, shows_spread
from rowvault.questions import Question
from rowvault.shapes import Shape
from rowvault.sites import (
    AtSites, Bearing, Bears, Fails, NoSpread, NotAsked, Sites, Spread, TooFew, at_sites, bearing, bears, site_partings,
    site_readings, spread, weak_lots,
)
from rowvault.told import told
from tests.helpers import OTHER, TWO, Case, any_values, is_of
from tests.kept import (
    SMALL, least_cuts, least_sites, right_at_sites, right_bearing, right_bears, right_spread, sites_by, some_question,
    some_sites, units_at, ways, weak,
)
from tests.lost import is_rebuilt
from tests.papers import altered

FEW = Layout(TWO, Blocks(Every(2)), Buckets(1))
KEPT = Sites(FEW, ["block 0"], ("block 1",), ["bucket 1", "bucket 0"])
AT = Question(TWO, {("a", 0): 1})


class Kept(Case):
    def test_sites(self):
        for sites in some_sites(1, 60):
            layout = sites.layout
            self.same(len(sites), len(sites.lots))
            self.same(list(sites), list(sites.lots))
            self.same(sorted(unit for lot in sites for unit in lot), sorted(layout.units))
            for number, lot in enumerate(sites.lots):
                self.same(sites[number], tuple(unit for unit in layout.units if unit in lot))
                for unit in lot:
                    self.same(sites.site_of(unit), number)
            for size in range(len(sites) + 1):
                for numbers in itertools.permutations(range(len(sites)), size):
                    at = tuple(units_at(sites, numbers))
                    self.same(sites.units_at(list(numbers) + list(numbers[:1])), at)
                    self.same(sites.units_off(numbers=numbers), tuple(unit for unit in layout.units if unit not in at))
            self.assertEqual(sites, Sites(layout, *[lot[::-1] for lot in sites]))
            if len(sites) > 1:
                self.assertNotEqual(sites, Sites(layout, *sites.lots[::-1]))
        self.assertIs(KEPT.layout, FEW)
        self.assertTrue(KEPT)
        self.assertNotEqual(KEPT, Sites(FEW + Buckets(1) + Blocks(Every(2), "days"), *KEPT.lots))

    def test_lots_that_are_changed_later(self):
        lots = [["block 0", "bucket 0"], ["bucket 1", "block 1"]]
        sites = Sites(FEW, *lots)
        lots[0].clear()
        self.same(sites.lots, (("block 0", "bucket 0"), ("block 1", "bucket 1")))

    def test_errors(self):
        for value in any_values():
            if not isinstance(value, Layout):
                self.raises(BadLayout("layout"), Sites, value, ["block 0"])
                self.raises(BadLayout("layout"), Sites.read, "block 0", value)
                self.raises(BadLayout("layout"), Sites.read, "x", value)
            if not isinstance(value, (list, tuple)) or not len(value):
                self.raises(BadSites("lots"), Sites, FEW, ["block 9"], value)
            else:
                self.raises(BadUnit(value[0]), Sites, FEW, value, FEW.units)
            if not (isinstance(value, str) and value in FEW):
                self.raises(BadUnit(value), Sites, FEW, ["block 0"], ["block 1", value])
                self.raises(BadUnit(value), KEPT.site_of, value)
            if not (type(value) is int and 0 <= value < 3):
                self.raises(BadCount(value), KEPT.__getitem__, value)
                for call in (KEPT.units_at, KEPT.units_off):
                    self.raises(BadCount(value), call, [1, value, 7])
            if not isinstance(value, (list, tuple)):
                for call in (KEPT.units_at, KEPT.units_off):
                    self.raises(BadSites("numbers"), call, value)
            self.assertNotEqual(KEPT, value)
        for value in (-1, 3):
            self.raises(BadCount(value), KEPT.__getitem__, value)
            for call in (KEPT.units_at, KEPT.units_off, lambda numbers: at_sites(KEPT, numbers, AT)):
                self.raises(BadCount(value), call, [0, value])
        self.raises(BadSites("lots"), Sites, FEW)
        self.raises(BadSites("lots"), Sites, Layout(TWO))
        self.raises(BadSites("lots"), Sites, FEW, ["block 9"], [])
        self.raises(BadUnit("block 0"), Sites, FEW, ["block 0", "block 0"])
        self.raises(BadUnit("block 0"), Sites, FEW, ["block 0"], ["block 1", "block 0", "block 9"])
        self.raises(BadSites("units"), Sites, FEW, ["block 0"], ["block 1", "bucket 1"])

    def test_ten_sites(self):
        layout = Layout(Shape(list("abc"), 4), Blocks(Every(1)))
        units = layout.units
        ten = Sites(layout, *[[unit] for unit in units[:9]], units[9:])
        self.same(len(ten), 10)
        self.same(len(list(site_readings(ten, Question(layout.shape, {("a", 0): 1})))), 1)
        self.raises(TooMany("sites", 10), Sites, layout, *[[unit] for unit in units[:10]], units[10:])
        self.raises(BadSites("units"), Sites, layout, *[[unit] for unit in units[:11]])
        text = " / ".join(units[:10]) + " / " + " , ".join(units[10:])
        self.raises(TooMany("sites", 10), Sites.read, text, layout)

    def test_texts(self):
        for sites in some_sites(2, 40):
            text = str(sites)
            self.assertEqual(text, " / ".join(" , ".join(lot) for lot in sites.lots))
            self.assertEqual(Sites.read(text=text, layout=sites.layout), sites)

    def test_words_that_cannot_stand(self):
        text = "block 0 / block 1 , bucket 1 / bucket 0"
        for other, word in (
                ("", 0), ("-", 0), ("block", 1), ("block 0 /", 3), ("block 0 / -", 3), ("block 0 / block 0", 4),
                ("block 0 / block 1 , bucket 1 / bucket 1", 10), ("block 0 / block 1 , block 1", 7), ("block 0 / /", 3),
                ("block 0 / block 1 ,", 6), ("block 0 , , ", 3), ("block 0 bucket 0", 2), ("block 0  / block 1", 2),
                ("bucket 0 , block 1", 4), ("block 100", 1), ("block 01", 1), ("blocks 0", 0), ("/ block 0", 0),
                (text + " /", 12), (text + " ,", 12), (text + " / bucket 0", 13), (text + " x", 11),
                ("journal / journal", 2), ("block 0 / journal / journal", 5), ("cell 0 1", 1), ("cell 1 0 / cell 1 0", 6),
                ("parity 0 0 / parity 0 1 , parity 0 0", 10), ("parity 0 0 / parity 0 0", 6), ("block 5 , journal", 3)):
            self.raises(BadText(0, word), Sites.read, other, FEW)
        self.assertEqual(str(Sites.read(text, FEW)), text)
        for value in any_values():
            if not isinstance(value, str):
                self.raises(BadText(0, 0), Sites.read, value, FEW)

    def test_texts_that_the_class_refuses(self):
        for text, error in (("journal / block 0", BadUnit("journal")), ("block 0 / block 2", BadUnit("block 2")),
                            ("block 0", BadSites("units")), ("page 0 , cell 1 1 / block 0", BadUnit("page 0"))):
            self.raises(error, Sites.read, text, FEW)

    def test_changed_texts(self):
        # Each change of a text is read, or told at the word that a reckoning by hand tells.
        chance = random.Random(3)
        for sites in some_sites(4, 12):
            words = str(sites).split(" ")
            vocabulary = words + ["/", ",", "block", "0", "1", "-", "", "9", "bucket", "100"]
            for _ in range(120):
                other, at = list(words), chance.randrange(len(words))
                change = chance.randrange(4)
                if change == 0:
                    del other[at]
                elif change == 1:
                    other.insert(at, chance.choice(vocabulary))
                elif change == 2:
                    other[at] = chance.choice(vocabulary)
                else:
                    two = chance.randrange(len(words))
                    other[at], other[two] = other[two], other[at]
                self.text(sites.layout, " ".join(other))

    def text(self, layout, text):
        wrong = wrong_word(text.split(" "))
        if wrong is not None:
            self.raises(BadText(0, wrong), Sites.read, text, layout)
            return
        lots = [lot.split(" , ") for lot in text.split(" / ")]
        units = [unit for lot in lots for unit in lot]
        strange = [unit for unit in units if unit not in layout]
        if strange:
            self.raises(BadUnit(strange[0]), Sites.read, text, layout)
        elif len(units) < len(layout):
            self.raises(BadSites("units"), Sites.read, text, layout)
        else:
            self.assertEqual(str(Sites.read(text, layout)), text)


RANKS = ["journal", "block", "page", "cell", "bucket", "parity"]
COUNTS = {"journal": 0, "block": 1, "page": 1, "cell": 2, "bucket": 1, "parity": 2}


def wrong_word(words):
    """The index of the first word that cannot stand in a text of sites, or None."""
    at, taken, last = 0, [], None
    while True:
        if at >= len(words) or words[at] not in RANKS:
            return at
        word, numbers = words[at], []
        for k in range(COUNTS[word]):
            at += 1
            low = 1 if word == "cell" and k == 0 else 0
            if at >= len(words) or words[at] not in [str(number) for number in range(low, 100)]:
                return at
            numbers.append(int(words[at]))
        unit = (RANKS.index(word), numbers)
        if unit in taken or (last is not None and unit <= last):
            return at
        taken.append(unit)
        at += 1
        if at == len(words):
            return None
        if words[at] not in (",", "/"):
            return at
        last = unit if words[at] == "," else None
        at += 1


class Lots(Case):
    def test_readings_and_partings(self):
        chance = random.Random(5)
        for sites in some_sites(6, 80):
            question = some_question(chance, sites.layout)
            self.same(list(site_readings(sites, question)), least_sites(sites, question))
            self.same(list(site_partings(sites=sites, question=question)), least_cuts(sites, question))
        none = Question(TWO, {})
        self.same([list(site_readings(KEPT, none)), list(site_partings(KEPT, none))], [[()], []])
        sums = Layout(TWO, Pages(1), Buckets(1))
        sites = Sites(sums, sums.units[:2], sums.units[2:])
        self.same([list(site_readings(sites, AT)), list(site_partings(sites, AT))], [[], [()]])

    def test_at_sites(self):
        chance = random.Random(7)
        kinds = {AtSites: 0, TooFew: 0, NotAsked: 0}
        for sites in some_sites(8, 40):
            question = some_question(chance, sites.layout)
            least = least_sites(sites, question)
            for size in range(len(sites) + 1):
                for numbers in itertools.combinations(range(len(sites)), size):
                    given = list(numbers[::-1]) + list(numbers[:2])
                    paper = at_sites(sites, numbers=given, question=question)
                    kinds[type(paper)] += 1
                    self.assertTrue(right_at_sites(sites, numbers, question, paper))
                    self.assertIs(bool(paper), numbers in least)
                    if type(paper) is NotAsked:
                        firsts = [one for one in numbers if told(sites.layout, units_at(
                            sites, [other for other in numbers if other != one]), question)]
                        self.same(paper.number, firsts[0])
        self.assertGreater(min(kinds.values()), 60)

    def test_bears_and_bearing(self):
        kinds = {Bears: 0, Fails: 0}
        for sites in some_sites(9, 60):
            counts = []
            for many in range(len(sites) + 1):
                paper = bears(sites, many)
                kinds[type(paper)] += 1
                self.assertTrue(right_bears(sites, many, paper))
                wrong = [numbers for numbers in itertools.combinations(range(len(sites)), many)
                         if not is_rebuilt(sites.layout, units_at(sites, numbers))]
                self.assertIs(bool(paper), not wrong)
                if wrong:
                    self.same(paper.numbers, wrong[0])
                    self.assertEqual(paper.lacking, rebuilt(sites.layout, units_at(sites, wrong[0])))
                counts.append(not wrong)
            paper = bearing(sites)
            self.assertTrue(right_bearing(sites, paper))
            self.same(paper.many, counts.index(False) - 1)
            self.assertEqual(bears(sites, paper.many), paper.borne)
            self.assertEqual(bears(sites, paper.many + 1), Fails(paper.numbers, paper.lacking))
        self.assertGreater(min(kinds.values()), 50)

    def test_weak_lots(self):
        for layout in SMALL + [Layout(TWO)]:
            self.same(list(weak_lots(layout)), weak(layout))
            for lot in itertools.chain.from_iterable(itertools.combinations(layout.units, many) for many in range(4)):
                # A loss is rebuilt exactly if it holds no weak lot.
                held = any(set(one) <= set(lot) for one in weak(layout))
                self.assertIs(bool(rebuilt(layout, lot)), not held)

    def test_spread(self):
        kinds = {Spread: 0, NoSpread: 0}
        for layout in SMALL:
            rows = weak(layout)
            for many in range(1, min(4, len(layout)) + 1):
                for lost in range(many + 1):
                    paper = spread(layout, many, lost)
                    kinds[type(paper)] += 1
                    self.assertTrue(right_spread(layout, many, lost, paper))
                    borne = [way for way in ways(len(layout), many) if all(
                        len({site for unit, site in zip(layout.units, way) if unit in lot}) > lost for lot in rows)]
                    self.assertIs(bool(paper), bool(borne))
                    if borne:
                        self.assertEqual(paper.sites, sites_by(layout, min(borne)))
                        self.assertEqual(paper.borne, bears(paper.sites, lost))
        self.assertGreater(min(kinds.values()), 20)

    def test_weak_lots_are_at_more_sites(self):
        for sites in some_sites(10, 40):
            held = min(len({sites.site_of(unit) for unit in lot}) for lot in weak(sites.layout))
            self.same(bearing(sites).many, held - 1)


class Altered(Case):
    def look(self, seen, shows, right, paper, chance, others):
        for value in [paper] + [altered(paper, chance, others) for _ in range(25)]:
            wanted = right(value)
            self.assertIs(shows(value), wanted, f"{value!r} {getattr(value, '__dict__', None)}")
            seen[wanted] += 1

    def test_papers_with_one_thing_otherwise(self):
        chance = random.Random(11)
        counts = [{True: 0, False: 0} for _ in range(4)]
        for sites in some_sites(12, 50):
            layout, question = sites.layout, some_question(chance, sites.layout)
            numbers = [number for number in range(len(sites)) if chance.random() < 0.6]
            least = least_sites(sites, question)
            numbers = chance.choice(least) if least and chance.random() < 0.5 else numbers
            many, lost = chance.randint(0, len(sites)), 0
            self.look(counts[0], lambda one: shows_at_sites(sites, numbers, question, one),
                      lambda one: right_at_sites(sites, numbers, question, one), at_sites(sites, numbers, question),
                      chance, [0, 1, *numbers])
            self.look(counts[1], lambda one: shows_bears(sites, many, one), lambda one: right_bears(sites, many, one),
                      bears(sites, many), chance, [0, 1, *layout.units])
            self.look(counts[2], lambda one: shows_bearing(sites, one), lambda one: right_bearing(sites, one),
                      bearing(sites), chance, [0, 1, *layout.units])
            if len(layout) < 6:
                many = chance.randint(1, min(4, len(layout)))
                lost = chance.randint(0, many)
                self.look(counts[3], lambda one: shows_spread(layout, many, lost, one),
                          lambda one: right_spread(layout, many, lost, one), spread(layout, many, lost), chance,
                          [sites, KEPT, *layout.units])
        for seen in counts:
            self.assertGreater(min(seen.values()), 40)

    def test_other_right_papers(self):
        # Any site that is not asked, any loss, any way, any lots that are lost in each way.
        paper = NotAsked(2, told(FEW, ["block 0", "block 1"], AT))
        self.assertIs(shows_at_sites(KEPT, [0, 1, 2], AT, paper), True)
        self.assertIs(shows_at_sites(KEPT, [0, 1], AT, paper), False)
        for numbers in ((0, 1), (0, 2), (1, 2)):
            lacking = rebuilt(FEW, KEPT.units_at(numbers))
            self.assertIs(shows_bears(KEPT, 2, Fails(numbers, lacking)), True)
            self.assertIs(shows_bears(KEPT, 1, Fails(numbers, lacking)), False)
            self.assertIs(shows_bears(KEPT, 2, Fails(numbers[::-1], lacking)), False)
            value = Bearing(1, bears(KEPT, 1), numbers, lacking)
            self.assertIs(shows_bearing(KEPT, value), True)
            self.assertIs(shows_bearing(KEPT, Bearing(0, bears(KEPT, 0), numbers, lacking)), False)
        other = Sites(FEW, ["bucket 0", "bucket 1"], ["block 1"], ["block 0"])
        self.assertIs(shows_spread(FEW, 3, 1, Spread(other, bears(other, 1))), True)
        self.assertIs(shows_spread(FEW, 3, 1, Spread(other, bears(other, 0))), False)
        # Sites of another layout with units of the same names, which can be lost likewise.
        days = Layout(TWO, Blocks(Every(2), "days"), Buckets(1))
        kept = Sites(days, days.units[:1], days.units[1:2], days.units[2:])
        value = Spread(kept, bears(kept, 0))
        self.assertIs(shows_spread(days, 3, 0, value), True)
        self.assertIs(shows_spread(FEW, 3, 0, value), False)
        four = Sites(FEW, *[[unit] for unit in FEW])
        self.assertIs(shows_spread(FEW, 3, 1, Spread(four, bears(four, 1))), False)
        self.assertIs(shows_spread(FEW, 4, 1, Spread(four, bears(four, 1))), True)
        lots = [("block 0", "block 1"), ("block 0", "bucket 0"), ("block 1", "bucket 0")]
        self.assertIs(shows_spread(FEW, 2, 1, NoSpread({lot: rebuilt(FEW, lot) for lot in lots})), True)
        self.assertIs(shows_spread(FEW, 2, 1, NoSpread({lot: rebuilt(FEW, lot) for lot in lots[:2]})), False)
        self.assertIs(shows_spread(FEW, 2, 1, NoSpread({lot[::-1]: rebuilt(FEW, lot) for lot in lots})), False)
        # A greater lot that is not rebuilt is let.
        lots[0] = ("block 0", "block 1", "bucket 1")
        value = NoSpread({lot: rebuilt(FEW, lot) for lot in lots})
        self.assertIs(shows_spread(FEW, 2, 1, value), right_spread(FEW, 2, 1, value))
        self.assertIs(shows_spread(FEW, 2, 2, NoSpread({FEW.units: rebuilt(FEW, FEW.units)})), True)
        self.assertIs(shows_spread(FEW, 2, 0, NoSpread({})), False)

    def test_any_values(self):
        for value in any_values():
            self.assertIs(shows_at_sites(KEPT, [0], AT, value), False)
            self.assertIs(shows_bears(KEPT, 1, value), False)
            self.assertIs(shows_bearing(KEPT, value), False)
            self.assertIs(shows_spread(FEW, 3, 1, value), False)
            for other in any_values():
                for paper in (AtSites(value, other, other), TooFew(value), NotAsked(value, other), Bears(value),
                              Fails(value, other), Bearing(value, other, other, other), Spread(value, other),
                              NoSpread(value)):
                    self.assertIs(shows_at_sites(KEPT, [0], AT, paper), False)
                    self.assertIs(shows_bears(KEPT, 1, paper), False)
                    self.assertIs(shows_bearing(KEPT, paper), False)
        for value in any_values():
            for other in any_values()[::6]:
                for paper in (Spread(value, other), Spread(KEPT, value), NoSpread(value)):
                    self.assertIs(shows_spread(FEW, 3, 1, paper), False)


class Errors(Case):
    def test_first_error(self):
        sites = ("sites", FEW, BadSites("sites"))
        question = ("question", Question(OTHER, {}), BadQuestion("question"))
        numbers = ("numbers", [0, True], BadCount(True))
        many = ("many", -1, BadCount(-1))
        good = {"sites": KEPT, "question": AT, "numbers": [0], "many": 1, "value": None}
        calls = [(lambda **named: list(site_readings(**named)), "sites question"),
                 (lambda **named: list(site_partings(**named)), "sites question"),
                 (at_sites, "sites numbers question"), (bears, "sites many"), (bearing, "sites"),
                 (shows_at_sites, "sites numbers question value"), (shows_bears, "sites many value"),
                 (shows_bearing, "sites value")]
        for call, names in calls:
            given = {name: good[name] for name in names.split()}
            self.raises_first(call, given, [row for row in (sites, question, numbers, many) if row[0] in given])

    def test_any_values(self):
        for value in any_values():
            if not isinstance(value, Sites):
                for call, given in ((lambda *g: next(site_readings(*g)), [AT]), (lambda *g: next(site_partings(*g)), [AT]),
                                    (at_sites, [[0], AT]), (bears, [0]), (bearing, []), (shows_at_sites, [[0], AT, None]),
                                    (shows_bears, [0, None]), (shows_bearing, [None])):
                    self.raises(BadSites("sites"), call, value, *given)
            if not is_of(value, Question, TWO):
                for call, given in ((lambda *g: next(site_readings(*g)), [KEPT]), (at_sites, [KEPT, [0]]),
                                    (lambda *g: next(site_partings(*g)), [KEPT])):
                    self.raises(BadQuestion("question"), call, *given, value)
                self.raises(BadQuestion("question"), shows_at_sites, KEPT, [0], value, None)
            for call, given in ((at_sites, [AT]), (shows_at_sites, [AT, None])):
                if not isinstance(value, (list, tuple)):
                    self.raises(BadSites("numbers"), call, KEPT, value, *given)
                if not (type(value) is int and 0 <= value < 3):
                    self.raises(BadCount(value), call, KEPT, [2, value, 9], *given)
            for call, given in ((bears, []), (shows_bears, [None])):
                if type(value) is int and 0 <= value <= 3:
                    call(KEPT, value, *given)
                else:
                    self.raises(BadCount(value), call, KEPT, value, *given)

    def test_spread(self):
        calls = (spread, lambda layout, many, lost: shows_spread(layout, many, lost, None))
        eight = Layout(Shape(list("abcd"), 1), Blocks(Every(1)), Stripes(2, 2))
        nine = eight + Pages(4)
        self.assertEqual([len(eight), len(nine)], [8, 9])
        for call in calls:
            for value in any_values():
                if not isinstance(value, Layout):
                    self.raises(BadLayout("layout"), call, value, 99, 99)
                if not (type(value) is int and 1 <= value <= 4):
                    self.raises(BadCount(value), call, FEW, value, 99)
                if not (type(value) is int and 0 <= value <= 3):
                    self.raises(BadCount(value), call, FEW, 3, value)
            call(eight, 4, 2)
            self.raises(TooMany("units", 8), call, nine, 99, 99)
            self.raises(BadCount(5), call, eight, 5, 99)
            self.raises(BadCount(4), call, eight, 3, 4)
            call(Layout(TWO, Buckets(1)), 2, 2)
            self.raises(BadCount(3), call, Layout(TWO, Buckets(1)), 3, 0)
            self.raises(BadCount(1), call, Layout(TWO), 1, 0)
        self.assertTrue(right_spread(eight, 4, 2, spread(eight, 4, 2)))

    def test_weak_lots(self):
        shape = Shape(list("abc"), 4)
        twelve, thirteen = Layout(shape, Blocks(Every(1))), Layout(shape, Blocks(Every(1)), Buckets(4))
        self.same(list(weak_lots(twelve)), [(unit,) for unit in twelve])
        self.raises(TooMany("units", 12), lambda: next(weak_lots(thirteen)))
        for value in any_values():
            if not isinstance(value, Layout):
                self.raises(BadLayout("layout"), lambda: next(weak_lots(value)))
        layout = Layout(TWO, Cells(2), Pages(1), Buckets(1))
        self.same(list(weak_lots(layout)), weak(layout))

    def test_arguments_stay(self):
        numbers, lots = [2, 0, 2], [["bucket 1", "block 0"], ["block 1", "bucket 0"]]
        for _ in range(2):
            self.assertEqual(at_sites(KEPT, numbers, AT), at_sites(KEPT, numbers, AT))
            Sites(FEW, *lots)
            KEPT.units_at(numbers)
            KEPT.units_off(numbers)
        self.same([numbers, lots], [[2, 0, 2], [["bucket 1", "block 0"], ["block 1", "bucket 0"]]])
        paper = bears(KEPT, 1)
        paper.rebuilts.clear()
        self.assertTrue(bears(KEPT, 1).rebuilts)


class Papers(Case):
    def test_papers_of_any_values(self):
        classes = {AtSites: "numbers told parteds", TooFew: "parted", NotAsked: "number told", Bears: "rebuilts",
                   Fails: "numbers lacking", Bearing: "many borne numbers lacking", Spread: "sites borne", NoSpread: "weak"}
        for kind, names in classes.items():
            fields = names.split()
            for value in any_values():
                given = [value] + [[value]] * (len(fields) - 1)
                made = kind(*given)
                self.same([getattr(made, name) for name in fields], given)
                self.assertEqual(made, kind(**dict(zip(fields, given))))
                self.assertIs(bool(made), kind not in (TooFew, NotAsked, Fails, NoSpread))
                self.assertNotEqual(made, value)
                for at in range(len(fields)):
                    self.assertNotEqual(made, kind(*[[[value]] if k == at else one for k, one in enumerate(given)]))
                for other, more in classes.items():
                    if other is not kind and len(more.split()) == len(fields):
                        self.assertNotEqual(made, other(*given))


if __name__ == "__main__":
    unittest.main()
