"""Orders of writes: words, what is written, and what is told behind crashes and losses, against rows reckoned in the tests."""

import itertools
import random
import unittest

from rowvault.cuts import Every, Leads
from rowvault.errors import BadCount, BadLayout, BadOrder, BadPlace, BadRule, BadText, TooMany, Torn
from rowvault.kinds import Blocks, Buckets, Cells, Pages, Stripes
from rowvault.layouts import Layout
from rowvault.look_orders import shows_no_safe, shows_safe, shows_unsafe
from rowvault.orders import NoSafe, Order, Recovered, Safe, Unsafe, first_safe, judge_order, recovered
from rowvault.shapes import Shape
from rowvault.tables import Table
from tests.crashed import (
    DAY, JOURNALS, SMALL, all_cases, first_unsafe, is_told, left_rows, orders_for, right_no_safe, right_safe, right_unsafe,
    rows_behind, some_crashes, tells, wanted_row, words_of, writes_for,
)
from tests.helpers import TWO, Case, any_values, is_int, is_place
from tests.papers import altered
from tests.reading import check_reads

WORDS = ("block", "page", "cell", "bucket", "parity")
FULL = Layout(TWO, Blocks(Every(2)), Pages(1), Cells(2), Buckets(1))
PLAIN = SMALL[0]
RIGHT = Order("block", "parity")


class Made(Case):
    def test_words(self):
        self.same(Order.WORDS, WORDS)
        for many in range(1, 6):
            for words in itertools.permutations(WORDS, many):
                order = Order(*words)
                self.same([order.words, len(order), list(order), str(order)], [words, many, list(words), " ".join(words)])
                self.same([order[at] for at in range(many)], list(words))
                self.assertEqual(Order.read(str(order)), order)
                self.assertEqual(~order, Order(*words[::-1]))
                for word in WORDS:
                    self.assertIs(word in order, word in words)
                    if word in words:
                        self.raises(BadOrder("word"), lambda: order + word)
                        if many > 1:
                            self.assertEqual(order - word, Order(*[one for one in words if one != word]))
                        else:
                            self.raises(BadOrder("word"), lambda: order - word)
                    else:
                        self.assertEqual(order + word, Order(*words, word))
                        self.raises(BadOrder("word"), lambda: order - word)

    def test_wrong_words(self):
        self.raises(BadOrder("words"), Order)
        order = Order("cell", "page")
        for value in any_values() + ["journal", "blocks", "Block", ["block"], ("block",)]:
            self.raises(BadOrder(0), Order, value, None)
            self.raises(BadOrder(2), Order, "block", "page", value, "block")
            self.raises(BadOrder("word"), lambda: order + value)
            self.raises(BadOrder("word"), lambda: order - value)
            self.assertIs(value in order, False)
            self.assertIs(order == value, False)
            if not (is_int(value) and 0 <= value < 2):
                self.raises(BadCount(value), order.__getitem__, value)
        self.raises(BadOrder(1), Order, "block", "block", "x")
        self.raises(BadOrder(3), Order, "block", "page", "cell", "page")
        self.assertNotEqual(Order("block", "page"), Order("page", "block"))

    def test_in_place(self):
        first = order = Order("block")
        order += "page"
        self.same([str(first), str(order)], ["block", "block page"])
        order -= "block"
        self.same([str(first), str(order)], ["block", "page"])

    def test_which_words_can_stand(self):
        texts = [" ".join(words) for many in range(1, 6) for words in itertools.permutations(WORDS, many)]
        check_reads(self, Order.read, [texts[0], texts[7], texts[60], texts[-1]], [*WORDS, "", "x", "journal"],
                    {tuple(text.split(" ")) for text in texts})
        for value in any_values():
            if not isinstance(value, str):
                self.raises(BadText(0, 0), Order.read, value)


class Writes(Case):
    def test_fits_and_writes(self):
        for layout in SMALL:
            words = words_of(layout)
            for many in range(1, 6):
                for row in itertools.permutations(WORDS, many):
                    order = Order(*row)
                    held = sorted(row) == sorted(words)
                    self.assertIs(order.fits(layout), held)
                    if not held:
                        self.raises(BadOrder("order"), order.writes, layout, None, None)
                        continue
                    for place, journal in itertools.product(layout.shape, JOURNALS):
                        self.same(order.writes(layout, place, journal), tuple(writes_for(layout, order, place, journal)))
                    self.same(order.writes(layout=layout, place=layout.shape[0]), tuple(writes_for(layout, order, layout.shape[0], "none")))

    def test_kinds_without_units(self):
        # On one place cells have no level, so the word cell has no unit.
        layout = Layout(Shape(["a"], 1), Cells(2), Buckets(1))
        self.assertTrue(Order("bucket").fits(layout))
        self.assertFalse(Order("cell", "bucket").fits(layout))
        self.assertFalse(Order("cell").fits(Layout(Shape(["a"], 1), Cells(2))))

    def test_errors_in_their_order(self):
        good = {"layout": PLAIN, "place": ("a", 0), "journal": "old"}
        self.raises_first(RIGHT.writes, good, [("layout", SMALL[3], BadOrder("order")), ("place", ("c", 0), BadPlace(("c", 0))),
                                               ("journal", "last", BadRule("journal"))])
        for value in any_values():
            if not isinstance(value, Layout):
                self.raises(BadLayout("layout"), RIGHT.fits, value)
                self.raises(BadLayout("layout"), RIGHT.writes, value, None, None)
            if not is_place(value, DAY):
                self.raises(BadPlace(value), RIGHT.writes, PLAIN, value, None)
            self.raises(BadRule("journal"), RIGHT.writes, PLAIN, ("a", 0), value)


class Judged(Case):
    def test_against_steps_of_rows(self):
        seen = {}
        for layout, order, many, journal, _ in some_crashes(1, 140):
            paper = judge_order(layout, order, many, journal)
            first = first_unsafe(layout, order, many, journal)
            seen[first is None, journal] = seen.get((first is None, journal), 0) + 1
            if first is None:
                self.assertTrue(right_safe(layout, order, many, paper, journal))
                self.assertIs(bool(paper), True)
                self.assertIs(shows_safe(layout, order, many, paper, journal), True)
                self.assertIs(shows_unsafe(layout, order, many, paper, journal), False)
                continue
            self.assertIs(bool(paper), False)
            self.same((paper.place, paper.moment, paper.lost), first)
            self.assertTrue(right_unsafe(layout, order, many, paper, journal))
            self.assertIs(shows_unsafe(layout, order, many, paper, journal), True)
            self.assertIs(shows_safe(layout, order, many, paper, journal), False)
        for case in itertools.product((True, False), JOURNALS):
            self.assertGreater(seen.get(case, 0), 3, case)

    def test_fewer_units_than_losses(self):
        layout = Layout(Shape(["a"], 1), Buckets(1))
        paper = judge_order(layout, Order("bucket"), 3)
        self.same([paper.place, paper.moment, paper.lost], [("a", 0), 0, ("bucket 0",)])
        paper = judge_order(layout, Order("bucket"), 2, "both")
        self.same([paper.moment, paper.lost], [0, ("bucket 0",)])

    def test_which_amount_is_told(self):
        paper = judge_order(PLAIN, ~RIGHT, 1, "new")
        news = [key for key, triple in paper.tolds.items() if triple[2]]
        self.assertTrue(news)
        for place, _, _, other in news:
            self.assertEqual(place, other)

    def test_first_safe(self):
        seen = {True: 0, False: 0}
        chance = random.Random(2)
        for _ in range(40):
            layout, many, journal = chance.choice(SMALL), chance.choice([0, 1, 1, 2]), chance.choice(JOURNALS)
            told = first_safe(layout, many, journal)
            safe = [order for order in orders_for(layout) if first_unsafe(layout, order, many, journal) is None]
            seen[bool(safe)] += 1
            if safe:
                self.assertEqual(told, safe[0])
                self.assertIs(shows_no_safe(layout, many, told, journal), False)
                continue
            self.assertTrue(right_no_safe(layout, many, told, journal))
            self.assertIs(shows_no_safe(layout, many, told, journal), True)
            for text, paper in told.papers.items():
                self.same((paper.place, paper.moment, paper.lost), first_unsafe(layout, Order.read(text), many, journal))
        self.assertGreater(min(seen.values()), 5)

    def test_no_units_and_so_no_order(self):
        layout = Layout(TWO)
        self.assertEqual(first_safe(layout, 0), NoSafe({}))
        self.assertFalse(first_safe(layout, 0))
        self.assertIs(shows_no_safe(layout, 3, NoSafe({}), "both"), True)
        self.raises(BadOrder("order"), judge_order, layout, RIGHT, None, None)

    def test_bounds(self):
        five = Layout(TWO, Blocks(Every(2)), Pages(1), Cells(2), Buckets(1), Stripes(2))
        self.raises(TooMany("kinds", 4), first_safe, five, 0)
        self.assertTrue(first_safe(FULL, 0, "both"))
        self.assertIs(shows_no_safe(five, 0, NoSafe({})), False)
        # For each place two writes make three moments; 10 blocks and 2 buckets are left.
        wide = Layout(Shape(["a"], 6), Blocks(Every(1)), Buckets(3))
        count = 6 * 3 * 56
        self.assertLess(count, 3000)
        self.assertFalse(judge_order(wide, Order("block", "bucket"), 3))
        more = Layout(Shape(["a", "b"], 5), Blocks(Every(1)), Buckets(1))
        self.raises(TooMany("losses", 3000), judge_order, more, Order("block", "bucket"), 3)
        self.raises(TooMany("losses", 3000), first_safe, more, 3)
        self.assertIs(shows_safe(more, Order("block", "bucket"), 3, Safe({})), False)
        self.assertIs(shows_unsafe(more, Order("block", "bucket"), 3, Safe({})), False)

    def test_just_three_thousand(self):
        layout = Layout.read("shape a days 8\nblocks keys every 4\npages 1\ncells 2")
        order = Order("block", "page", "cell")
        self.assertEqual(sum(1 for _ in all_cases(layout, order, 2, "both")), 3000)
        self.assertIs(bool(judge_order(layout, order, 2, "both")), first_unsafe(layout, order, 2, "both") is None)
        self.assertTrue(first_safe(layout, 2, "old") is not None)
        more = Layout.read("shape a days 8\nblocks keys every 4\npages 1\ncells 2\nbuckets 8")
        order = order + "bucket"
        count = sum(1 for _ in all_cases(more, order, 2, "none"))
        self.assertTrue(3000 < count < 4000)
        self.raises(TooMany("losses", 3000), judge_order, more, order, 2)
        self.raises(TooMany("losses", 3000), first_safe, more, 2)
        self.assertIs(shows_unsafe(more, order, 2, Unsafe(1, 2, 3, 4, 5)), False)

    def test_errors_in_their_order(self):
        good = {"layout": PLAIN, "order": RIGHT, "many": 1, "journal": "old"}
        wrong = [("layout", None, BadLayout("layout")), ("order", Order("block"), BadOrder("order")), ("many", 4, BadCount(4)),
                 ("journal", "", BadRule("journal"))]
        self.raises_first(judge_order, good, wrong)
        self.raises_first(shows_safe, {**good, "value": 0}, wrong)
        self.raises_first(shows_unsafe, {**good, "value": 0}, wrong)
        some = [one for one in wrong if one[0] != "order"]
        self.raises_first(first_safe, {key: value for key, value in good.items() if key != "order"}, some)
        self.raises_first(shows_no_safe, {"layout": PLAIN, "many": 0, "journal": "none", "value": 0}, some)
        for value in any_values():
            if not isinstance(value, Layout):
                self.raises(BadLayout("layout"), judge_order, value, None, None, None)
                self.raises(BadLayout("layout"), first_safe, value, None, None)
            if not isinstance(value, Order):
                self.raises(BadOrder("order"), judge_order, PLAIN, value, None, None)
            if not (is_int(value) and 0 <= value <= 3):
                self.raises(BadCount(value), judge_order, PLAIN, RIGHT, value, None)
                self.raises(BadCount(value), first_safe, PLAIN, value, None)
            self.raises(BadRule("journal"), judge_order, PLAIN, RIGHT, 0, value)
            self.raises(BadRule("journal"), first_safe, PLAIN, 0, value)


class RecoveredTables(Case):
    def answers(self, layout, table, change, place, journal, written):
        """The answers of all units behind a crash, reckoned by rows."""
        state = [table[other] for other in layout.shape] + [change]
        rows = rows_behind(layout, place, journal, written)
        return {unit: tuple(sum(a * b for a, b in zip(row, state)) for row in rows[unit]) for unit in rows}

    def test_for_all_moments_journals_and_losses(self):
        seen = {True: 0, False: 0, "torn": 0}
        chance = random.Random(3)
        for layout in SMALL:
            order = chance.choice(orders_for(layout))
            for place, journal in itertools.product(layout.shape, JOURNALS):
                writes = writes_for(layout, order, place, journal)
                for moment in range(len(writes) + 1):
                    table = Table(layout.shape, {other: chance.randint(-9, 9) for other in layout.shape})
                    change = chance.randint(-5, 5)
                    answers = self.answers(layout, table, change, place, journal, writes[:moment])
                    for many in (0, 1, 1, 2, 3):
                        lost = chance.sample(list(answers), min(many, len(answers)))
                        left = {unit: answers[unit] for unit in answers if unit not in lost}
                        self.one(layout, order, place, moment, journal, table, change, left, seen)
        self.assertGreater(min(seen.values()), 100)

    def one(self, layout, order, place, moment, journal, table, change, left, seen):
        writes = writes_for(layout, order, place, journal)
        rows = rows_behind(layout, place, journal, writes[:moment])
        rows = [row for unit in left for row in rows[unit]]
        kept = dict(left)
        if not is_told(layout, place, rows):
            self.raises(Torn(), recovered, layout, order, place, moment, left, journal)
            seen["torn"] += 1
        else:
            paper = recovered(layout, order, place, moment, left, journal=journal)
            self.assertIs(type(paper), Recovered)
            is_new = tells(rows, wanted_row(layout, place, True))
            self.assertIs(paper.is_new, is_new)
            self.assertEqual(paper.table, table.with_amount(place, table[place] + (change if is_new else 0)))
            seen[is_new] += 1
        self.assertEqual(left, kept)

    def test_errors_in_their_order(self):
        good = {"layout": PLAIN, "order": RIGHT, "place": ("a", 0), "moment": 1, "journal": "old",
                "left": {"block 0": (1,), "block 1": (2,), "journal": (3,)}}
        wrong = [("layout", None, BadLayout("layout")), ("order", None, BadOrder("order")), ("place", ("a", 1), BadPlace(("a", 1))),
                 ("journal", 5, BadRule("journal")), ("moment", 4, BadCount(4)), ("left", {"block 0": (1, 2)}, BadOrder("left"))]
        self.raises_first(recovered, good, wrong)
        self.raises(BadCount(3), recovered, PLAIN, RIGHT, ("a", 0), 3, {})
        self.raises(Torn(), recovered, PLAIN, RIGHT, ("a", 0), 2, {})

    def test_what_is_left(self):
        answers = {"block 0": (1,), "block 1": (2,), "parity 0 0": (3,)}
        wrong = [None, [], {"block 0": 1}, {"block 0": [1]}, {"block 0": ()}, {"block 0": (True,)}, {"block 2": (1,)}, {1: (1,)},
                 {"journal": (1,)}, {"page 0": (1,)}, {"block 0": ("1",)}, {("block 0",): (1,)}]
        for value in wrong:
            self.raises(BadOrder("left"), recovered, PLAIN, RIGHT, ("a", 0), 0, value, "old")
        self.raises(BadOrder("left"), recovered, PLAIN, RIGHT, ("a", 0), 2, {**answers, "journal": (1,)})
        self.raises(BadOrder("left"), recovered, PLAIN, RIGHT, ("a", 0), 1, {**answers, "journal": (1,)}, "both")
        told = recovered(PLAIN, RIGHT, ("a", 0), 1, {**answers, "journal": (1, 5)}, "both")
        self.assertEqual([told.table, told.is_new], [Table(DAY, {("a", 0): 5, ("b", 0): 2}), True])
        # Whether answers agree is not looked at.
        self.assertIs(type(recovered(PLAIN, RIGHT, ("a", 0), 0, {**answers, "parity 0 0": (99,)})), Recovered)


class Lookers(Case):
    def test_papers_with_one_thing_otherwise(self):
        seen = {True: 0, False: 0}
        for layout, order, many, journal, chance in some_crashes(4, 70, SMALL[:7]):
            paper = judge_order(layout, order, many, journal)
            others = list(layout.units) + ["journal", ("a", 0), True]
            for value in [paper] + [altered(paper, chance, others) for _ in range(14)]:
                for shows, right in ((shows_safe, right_safe), (shows_unsafe, right_unsafe)):
                    wanted = right(layout, order, many, value, journal)
                    self.assertIs(shows(layout, order, many, value, journal), wanted)
                    seen[wanted] += 1
        self.assertGreater(min(seen.values()), 100)

    def test_no_safe_with_one_thing_otherwise(self):
        seen = {True: 0, False: 0}
        chance = random.Random(5)
        for layout, many, journal in itertools.product(SMALL[:6], (0, 1, 2), ("none", "new")):
            paper = first_safe(layout, many, journal)
            if paper:
                continue
            for value in [paper] + [altered(paper, chance, list(layout.units)) for _ in range(20)]:
                wanted = right_no_safe(layout, many, value, journal)
                self.assertIs(shows_no_safe(layout, many, value, journal), wanted)
                seen[wanted] += 1
        self.assertGreater(min(seen.values()), 20)

    def test_any_place_moment_and_loss(self):
        """All Unsafes along each step between two pairs, of any place, moment and lot, first or not."""
        pairs = [((Table(DAY), 0), (Table(DAY, {("a", 0): x, ("b", 0): y}), c)) for x, y, c in itertools.product((-1, 0, 1), repeat=3)]
        seen = {True: 0, False: 0}
        for journal in ("none", "change"):
            for place, moment, lost, _ in [*all_cases(PLAIN, RIGHT, 1, journal), *all_cases(PLAIN, RIGHT, 0, journal)]:
                for one, other in pairs:
                    value = Unsafe(place, moment, lost, one, other)
                    wanted = right_unsafe(PLAIN, RIGHT, 1, value, journal)
                    self.assertIs(shows_unsafe(PLAIN, RIGHT, 1, value, journal), wanted)
                    seen[wanted] += 1
        self.assertGreater(min(seen.values()), 3)

    def test_kinds_of_keys(self):
        paper = judge_order(PLAIN, ~RIGHT, 1, "new")
        self.assertTrue(paper)
        key = next(one for one in paper.tolds if one[1] == 1)
        for other in ((key[0], True, key[2], key[3]), ((key[0][0], False), *key[1:]), (*key[:3], (key[3][0], False))):
            tolds = {(other if one == key else one): triple for one, triple in paper.tolds.items()}
            self.assertIs(shows_safe(PLAIN, ~RIGHT, 1, Safe(tolds), "new"), False)
        for is_new in (0, 1, None):
            tolds = {one: (*triple[:2], is_new) if one == key else triple for one, triple in paper.tolds.items()}
            self.assertIs(shows_safe(PLAIN, ~RIGHT, 1, Safe(tolds), "new"), False)
        self.assertIs(shows_safe(PLAIN, ~RIGHT, 1, Safe({**paper.tolds, "x": 1}), "new"), False)

    def test_triples_that_add_up_but_are_none(self):
        # Behind the journal alone: the parity tells both amounts, block 0 the one of a, the journal the change.
        paper = judge_order(PLAIN, RIGHT, 1, "change")
        self.assertTrue(paper)
        key = (("a", 0), 1, ("block 1",), ("b", 0))
        parity, block, lost, journal = ("parity 0 0", 0), ("block 0", 0), ("block 1", 0), ("journal", 0)
        for triple, wanted in [
                ((1, {parity: 1, block: -1}, False), True), ((2, {parity: 2, block: -2}, False), True), ((1, {lost: 1}, False), False),
                ((1, {parity: 1, block: -1, journal: 1}, True), False), ((0, {}, False), False), ((-1, {parity: -1, block: 1}, False), False),
                ((1, {parity: 1, block: -1, journal: 0}, False), False), ((True, {parity: 1, block: -1}, False), False),
                ((1, {parity: True, block: -1}, False), False), ((1, {("parity 0 0", False): 1, block: -1}, False), False),
                ((1, {parity: 1, block: -1}, 0), False), ([1, {parity: 1, block: -1}, False], False),
                ((1, [(parity, 1), (block, -1)], False), False), ((1, {parity: 1, block: -1}), False)]:
            self.assertIs(shows_safe(PLAIN, RIGHT, 1, Safe({**paper.tolds, key: triple}), "change"), wanted, triple)

    def test_fewer_lost_units_than_told_of(self):
        paper = judge_order(PLAIN, RIGHT, 1)
        self.assertIs(shows_unsafe(PLAIN, RIGHT, 1, paper), True)
        self.assertIs(shows_unsafe(PLAIN, RIGHT, 2, paper), True)
        self.assertIs(shows_unsafe(PLAIN, RIGHT, 0, paper), False)

    def test_equal_papers(self):
        for kind, fields in ((Safe, 1), (Unsafe, 5), (NoSafe, 1), (Recovered, 2)):
            values = list(range(fields))
            self.assertEqual(kind(*values), kind(*values))
            self.assertEqual(list(vars(kind(*values)).values()), values)
            self.assertIs(bool(kind(*values)), kind in (Safe, Recovered))
            for at in range(fields):
                self.assertNotEqual(kind(*values), kind(*values[:at], 9, *values[at + 1:]))
            for value in [Safe(0), NoSafe(0), *any_values()]:
                if type(value) is not kind:
                    self.assertNotEqual(kind(*values), value)

    def test_any_values(self):
        for value in any_values():
            self.assertIs(shows_safe(PLAIN, RIGHT, 1, value), False)
            self.assertIs(shows_safe(PLAIN, RIGHT, 1, Safe(value)), False)
            self.assertIs(shows_unsafe(PLAIN, RIGHT, 1, value), False)
            self.assertIs(shows_unsafe(PLAIN, RIGHT, 1, Unsafe(value, value, value, value, value)), False)
            self.assertIs(shows_no_safe(PLAIN, 1, value), False)
            self.assertIs(shows_no_safe(PLAIN, 1, NoSafe(value)), False)
            for kind in (Safe, NoSafe):
                self.assertTrue(kind(value) == kind(value))
        self.assertEqual(Recovered(table=1, is_new=2), Recovered(1, 2))
        self.assertNotEqual(Unsafe(1, 2, 3, 4, 5), Unsafe(1, 2, 3, 4, 6))

    def test_left_rows(self):
        self.same(left_rows({"x": [1], "y": [2, 3]}, ("x",)), [2, 3])


if __name__ == "__main__":
    unittest.main()
