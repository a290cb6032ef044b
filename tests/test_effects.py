"""Effects of scripts, against play on vaults with drawn tables; runs whose puts are cut off, made by the tests."""

import itertools
import random
import unittest

from rowvault.cuts import Every
from rowvault.effects import (
    Answer, Effect, OtherAnswers, OtherEnd, SameAnswers, SameEnd, Shaken, Steady, effect, needless_line, outline, same_answers,
    same_end, steady,
)
from rowvault.errors import BadCount, BadLayout, BadOrder, BadRule, BadVault, NoDeed, TooMany, Torn, VaultError
from rowvault.kinds import Blocks, Buckets, Pages, Stripes
from rowvault.layouts import Layout
from rowvault.look_scripts import shows_other_answers, shows_other_end, shows_shaken
from rowvault.orders import Order, judge_order
from rowvault.questions import Question
from rowvault.scripts import Script, play
from rowvault.shapes import Shape
from rowvault.tables import Table
from rowvault.vaults import Vault
from tests.crashed import DAY, JOURNALS, SMALL, lots_of, orders_for, writes_for
from tests.helpers import OTHER, TWO, Case, any_values, is_int, is_of
from tests.papers import altered
from tests.store import ALL, Store, lines_of, outcome_of, run_of, some_table

FULL = Layout(TWO, Blocks(Every(2)), Pages(1), Buckets(1))
PLAIN = Layout(DAY, Blocks(Every(1)), Stripes(2))
RIGHT = Order("block", "parity")
EASY = ["put", "put", "add", "lose", "bring", "back", "ask", "ask", "mark", "asked", "undo"]


def some_script(seed, many, kinds=ALL, layout=None):
    """A layout and a script drawn for it."""
    deeds, first = [], None
    for store, deed in run_of(seed, many, kinds, layout):
        first = first or store.copy()
        deeds.append(deed)
    return first.layout, Script(first.layout.shape, *[lines_of(deed) for deed in deeds])


def answers_of(layout, script, table):
    return [one for one in play(script, Vault(layout, table)) if is_int(one)]


def end_of(layout, script, table):
    vault = Vault(layout, table)
    play(script, vault)
    return vault


def some_tables(chance, shape):
    """Tables of small and great amounts, and those with one amount."""
    ones = [Table(shape, {place: 1}) for place in shape]
    return [Table(shape), *ones, *[some_table(chance, shape) for _ in range(3)]]


class Outlines(Case):
    def test_outline_and_effect_against_play(self):
        chance = random.Random(1)
        seen = {}
        for seed in range(120):
            layout, script = some_script(500 + seed, 22)
            told = outline(layout=layout, script=script)
            end = effect(layout, script)
            self.assertEqual(effect(layout=layout, script=script), end)
            for table in [some_table(chance, layout.shape) for _ in range(3)]:
                vault = Vault(layout, table)
                for one, other in zip(told, play(script, vault), strict=True):
                    if isinstance(one, Answer):
                        self.same(one.question(table) + one.number, other)
                        self.assertTrue(is_int(one.number) and is_of(one.question, Question, layout.shape))
                    else:
                        self.same(one, other)
                    seen[type(one) if isinstance(one, Answer) else one] = True
                self.end(end, layout, script, table, vault)
        self.assertTrue({Answer, "done", "new", "old", "put", "add", "refused Untold", "refused Torn"} <= set(seen))

    def end(self, end, layout, script, table, vault):
        """The table that the effect tells, as a store that the test keeps has it."""
        self.assertIs(type(end), Effect)
        self.assertEqual(end.layout, vault.layout)
        units = vault.units_left
        if vault.torn is not None:
            try:
                vault.read_unit("journal")
                units = ("journal", *units)
            except VaultError:
                pass
        self.same(end.units, units)
        self.same(list(end.places), list(layout.shape))
        store = Store(layout, table)
        for deed in script.deeds:
            outcome_of(store, deed)
        for place, (kept, number) in end.places.items():
            self.assertTrue(type(kept) is bool and is_int(number))
            self.same(number + (table[place] if kept else 0), store.table[place])
        if store.tear is None:
            self.assertIsNone(end.tear)
        else:
            self.same(end.tear, (str(store.tear[0]), *store.tear[1:]))

    def test_returned_dicts_belong_to_the_caller(self):
        script = Script(TWO, "put a 0 4")
        end = effect(FULL, script)
        end.places.clear()
        self.same(effect(FULL, script).places["a", 0], (False, 4))

    def test_papers(self):
        for kind, fields in ((Answer, 2), (Effect, 4), (OtherEnd, 1), (OtherAnswers, 1), (Steady, 1), (Shaken, 3), (SameEnd, 0), (SameAnswers, 0)):
            values = list(range(fields))
            self.assertEqual(kind(*values), kind(*values))
            self.assertEqual(list(vars(kind(*values)).values()), values)
            self.assertIs(bool(kind(*values)), kind not in (OtherEnd, OtherAnswers, Shaken))
            for at in range(fields):
                self.assertNotEqual(kind(*values), kind(*values[:at], 9, *values[at + 1:]))
            for value in any_values():
                self.assertNotEqual(kind(*values), value)
        self.assertNotEqual(SameEnd(), SameAnswers())
        self.assertNotEqual(OtherEnd(1), OtherAnswers(1))


def near(chance, script):
    """A script like another one: a line left out, doubled, exchanged, or some lines that do the same."""
    lines, shape = list(script.lines), script.shape
    way = chance.randrange(6)
    at = chance.randrange(len(lines)) if lines else 0
    if way == 0 and lines:
        del lines[at]
    elif way == 1 and lines:
        lines.insert(at, lines[at])
    elif way == 2 and len(lines) > 1:
        other = chance.randrange(len(lines))
        lines[at], lines[other] = lines[other], lines[at]
    elif way == 3:
        key, day = chance.choice(shape.places)
        number = chance.choice([1, -2])
        lines[at:at] = [f"add {key} {day} {number}", f"add {key} {day} {-number}"]
    elif way == 4:
        key, day = chance.choice(shape.places)
        lines[at:at] = [f"add {key} {day} 3", "undo"]
    else:
        lines = [line.replace("put", "add") if place == at else line for place, line in enumerate(lines)]
    return Script(shape, *lines)


class Alike(Case):
    def test_ends_and_answers(self):
        chance = random.Random(2)
        seen = {}
        for seed in range(260):
            layout, one = some_script(700 + seed, chance.randint(1, 14), ALL if seed % 3 == 0 else EASY)
            other = near(chance, one)
            end, answers = same_end(layout, one, other), same_answers(layout=layout, one=one, other=other)
            tables = some_tables(chance, layout.shape)
            if end:
                self.assertEqual(end, SameEnd())
                for table in tables:
                    self.assertTrue(end_of(layout, one, table) == end_of(layout, other, table))
            else:
                self.assertIs(type(end), OtherEnd)
                self.assertFalse(end_of(layout, one, end.table) == end_of(layout, other, end.table))
                self.assertIs(shows_other_end(layout, one, other, end), True)
            if answers:
                self.assertEqual(answers, SameAnswers())
                for table in tables:
                    self.same(answers_of(layout, one, table), answers_of(layout, other, table))
            else:
                self.assertIs(type(answers), OtherAnswers)
                self.assertNotEqual(answers_of(layout, one, answers.table), answers_of(layout, other, answers.table))
                self.assertIs(shows_other_answers(layout, one, other, answers), True)
            seen[bool(end), bool(answers)] = seen.get((bool(end), bool(answers)), 0) + 1
        self.assertGreater(min(seen.get(case, 0) for case in itertools.product((True, False), repeat=2)), 5)

    def test_ends_that_only_the_units_left_tell(self):
        # Behind the loss of all but bucket 0 the vault holds one sum: it is all that counts.
        lost = "lose block 0 , block 1 , page 0 , page 1 , bucket 1"
        one, other = Script(TWO, lost, "add a 0 1"), Script(TWO, lost, "add b 0 1")
        self.assertTrue(same_end(FULL, one, other))
        self.assertFalse(same_end(FULL, one, Script(TWO, lost, "add b 1 1")))
        self.assertFalse(same_end(FULL, Script(TWO, "add a 0 1"), Script(TWO, "put a 0 1")))
        self.assertTrue(same_end(FULL, Script(TWO, "mark x", "add a 0 0"), Script(TWO)))

    def test_ends_behind_crashes(self):
        lines = ["crash block parity : a 0 5 {} {}", "crash block parity : a 0 6 {} {}", "crash parity block : a 0 5 {} {}"]
        scripts = [Script(DAY, line.format(moment, journal)) for line in lines for moment in (0, 1) for journal in JOURNALS]
        for one, other in itertools.product(scripts, scripts):
            table = Table(DAY, {("a", 0): 3, ("b", 0): 4})
            alike = end_of(PLAIN, one, table) == end_of(PLAIN, other, table) and end_of(PLAIN, one, Table(DAY)) == end_of(PLAIN, other, Table(DAY))
            self.assertIs(bool(same_end(PLAIN, one, other)), alike, (str(one), str(other)))

    def test_ends_of_which_a_journal_is_left(self):
        chance = random.Random(5)
        seen = {True: 0, False: 0}
        heads = [[], ["add a 0 1"], ["put a 0 3"], ["put a 0 4"], ["add b 0 2"], ["put a 0 3", "add a 0 1"]]
        for journal, moment in itertools.product(JOURNALS[1:], (1, 2, 3)):
            tails = [[f"crash block parity : a 0 {amount} {moment} {journal}", "lose block 0 , block 1 , parity 0 0"] for amount in (5, 6)]
            scripts = [Script(DAY, *head, *tail) for head in heads for tail in tails]
            for one, other in itertools.product(scripts, scripts):
                alike = all(end_of(PLAIN, one, table) == end_of(PLAIN, other, table) for table in some_tables(chance, DAY))
                self.assertIs(bool(same_end(PLAIN, one, other)), alike, (str(one), str(other)))
                seen[alike] += 1
        self.assertGreater(min(seen.values()), 100)
        self.assertTrue(same_end(PLAIN, Script(DAY, "put a 0 3", "crash block parity : a 0 5 1 change", "lose block 0 , block 1 , parity 0 0"),
                                 Script(DAY, "put a 0 4", "crash block parity : a 0 6 1 change", "lose block 0 , block 1 , parity 0 0")))

    def test_ends_that_hold_the_same_answers(self):
        # Another layout, other units left, another moment of a crash: the vaults are unlike.
        one, other = Script(TWO, "lose page 0 , page 1"), Script(TWO, "lay blocks keys every 2 ; buckets 1")
        self.assertFalse(same_end(FULL, one, other))
        small = Layout(Shape(["a"], 1), Blocks(Every(1)), Pages(1), Buckets(1))
        self.assertFalse(same_end(small, Script(small.shape, "lose block 0"), Script(small.shape, "lose page 0")))
        lines = ["crash block parity : a 0 5 1 none", "crash block parity : a 0 5 2 none"]
        scripts = [Script(DAY, "lose parity 0 0", line) for line in lines]
        self.assertFalse(same_end(PLAIN, *scripts))
        for pair in ((FULL, one, other), (small, Script(small.shape, "lose block 0"), Script(small.shape, "lose page 0")), (PLAIN, *scripts)):
            self.assertIs(shows_other_end(*pair, same_end(*pair)), True)

    def test_answers_of_another_number(self):
        one, other = Script(TWO, "ask -", "ask 1 a 0"), Script(TWO, "ask 1 a 0", "asked x 1 a 0")
        self.assertFalse(same_answers(FULL, one, other))
        self.assertTrue(same_answers(FULL, Script(TWO, "asked x -", "ask 1 a 0", "mark x"), Script(TWO, "ask 1 a 0")))
        self.assertTrue(same_answers(FULL, Script(TWO, "put a 0 5", "ask 1 a 0"), Script(TWO, "ask -", "ask -")) == OtherAnswers(Table(TWO)))

    def test_needless_lines(self):
        chance = random.Random(3)
        seen = {True: 0, False: 0}
        for seed in range(120):
            layout, script = some_script(1100 + seed, chance.randint(1, 7), ALL if seed % 3 == 0 else EASY)
            found = None
            for at in range(len(script)):
                other = script.without(at)
                if same_end(layout, script, other) and same_answers(layout, script, other):
                    found = at
                    break
            self.same(needless_line(layout, script), found)
            seen[found is None] += 1
        self.assertGreater(min(seen.values()), 10)

    def test_wrong_values(self):
        script = Script(TWO, "put a 0 5")
        for call in (outline, effect, needless_line):
            self.raises_first(call, {"layout": FULL, "script": script}, [("layout", TWO, BadLayout("layout")), ("script", Script(OTHER), BadVault("script"))])
        wrong = [("layout", None, BadLayout("layout")), ("one", Script(OTHER), BadVault("one")), ("other", "undo", BadVault("other"))]
        for call in (same_end, same_answers):
            self.raises_first(call, {"layout": FULL, "one": script, "other": script}, wrong)
        for call in (shows_other_end, shows_other_answers):
            self.raises_first(call, {"layout": FULL, "one": script, "other": script, "value": 0}, wrong)
        for value in any_values():
            self.raises(BadVault("script"), outline, FULL, value)
            self.raises(BadVault("one"), same_end, FULL, value, value)
            self.raises(BadVault("other"), same_answers, FULL, script, value)
            if not isinstance(value, Layout):
                self.raises(BadLayout("layout"), effect, value, None)
                self.raises(BadLayout("layout"), same_end, value, None, None)

    def test_lookers_with_one_thing_otherwise(self):
        chance = random.Random(4)
        seen = {True: 0, False: 0}
        for seed in range(90):
            layout, one = some_script(1300 + seed, chance.randint(1, 8), EASY)
            other = near(chance, one)
            for kind, shows, differs in (
                    (OtherEnd, shows_other_end, lambda table: not end_of(layout, one, table) == end_of(layout, other, table)),
                    (OtherAnswers, shows_other_answers, lambda table: answers_of(layout, one, table) != answers_of(layout, other, table))):
                values = [kind(table) for table in some_tables(chance, layout.shape)]
                values += [altered(kind(Table(layout.shape)), chance) for _ in range(4)] + [kind(Table(OTHER)), OtherEnd(None)]
                for value in values:
                    wanted = type(value) is kind and is_of(value.table, Table, layout.shape) and differs(value.table)
                    self.assertIs(shows(layout, one, other, value), wanted)
                    seen[wanted] += 1
        self.assertGreater(min(seen.values()), 60)
        for value in any_values():
            self.assertIs(shows_other_end(FULL, Script(TWO), Script(TWO, "add a 0 1"), value), False)
            self.assertIs(shows_other_end(FULL, Script(TWO), Script(TWO, "add a 0 1"), OtherEnd(value)), is_of(value, Table, TWO))


def made_runs(layout, script, order, many, journal):
    """All crashes that the document tells of: the line, the moment and the loss, and whether recover tells a table."""
    vault = Vault(layout)
    for line, deed in enumerate(script.deeds):
        if deed[0] == "put":
            yield from made_crashes(vault, line, deed, order, many, journal)
        play(Script(layout.shape, script.lines[line]), vault)
        if not order.fits(vault.layout):
            return


def made_crashes(vault, line, deed, order, many, journal):
    writes = writes_for(vault.layout, order, deed[1], journal)
    for moment in range(len(writes) + 1):
        units = (["journal"] if "journal" in writes[:moment] else []) + list(vault.units_left)
        for lost in lots_of(units, many):
            same = vault.twin()
            try:
                same.crash(order, deed[1], deed[2], moment, journal)
            except VaultError:
                return
            same.lose(*lost)
            try:
                same.recover()
                yield line, moment, lost, True
            except Torn:
                yield line, moment, lost, False


class Runs(Case):
    def some(self, seed, many):
        chance = random.Random(seed)
        for at in range(many):
            layout = chance.choice(SMALL)
            layout, script = some_script(2000 + seed * 1000 + at, chance.randint(1, 9), ALL if at % 2 else EASY, layout)
            yield layout, script, chance.choice(orders_for(layout)), chance.choice([0, 0, 1, 1, 2]), chance.choice(JOURNALS), chance

    def test_against_crashes_made(self):
        seen = {True: 0, False: 0, "none": 0}
        for layout, script, order, many, journal, _ in self.some(1, 130):
            made = list(made_runs(layout, script, order, many, journal))
            if len(made) > 2000:
                self.raises(TooMany("runs", 2000), steady, layout, script, order, many, journal)
                continue
            paper = steady(layout, script, order, many, journal)
            bad = [row[:3] for row in made if not row[3]]
            seen["none" if not made else not bad] += 1
            if bad:
                self.same((paper.line, paper.moment, paper.lost), bad[0])
                self.assertIs(bool(paper), False)
                self.assertIs(shows_shaken(layout, script, order, many, paper, journal), True)
            else:
                self.assertEqual(paper, Steady(len(made)))
                self.same(paper.runs, len(made))
        self.assertGreater(min(seen.values()), 10)

    def test_looker(self):
        seen = {True: 0, False: 0}
        for layout, script, order, many, journal, chance in self.some(2, 60):
            made = {row[:3]: row[3] for row in made_runs(layout, script, order, many, journal)}
            keys = list(made)
            values = [Shaken(*key) for key in chance.sample(keys, min(6, len(keys)))]
            values += [Shaken(*key) for key in [key for key in keys if not made[key]][:4]]
            values += [altered(value, chance, list(layout.units)) for value in values for _ in range(2)] + [Shaken(0, 0, ())]
            for value in values:
                wanted = type(value) is Shaken and is_int(value.line) and is_int(value.moment) and type(value.lost) is tuple \
                    and made.get((value.line, value.moment, value.lost)) is False
                self.assertIs(shows_shaken(layout, script, order, many, value, journal), wanted)
                seen[wanted] += 1
        self.assertGreater(min(seen.values()), 40)
        # A loss of one unit is none of two, though the run does not stand it either.
        script = Script(DAY, "put a 0 1")
        self.assertIs(shows_shaken(PLAIN, script, RIGHT, 1, Shaken(0, 1, ("block 1",))), True)
        self.assertIs(shows_shaken(PLAIN, script, RIGHT, 2, Shaken(0, 1, ("block 1",))), False)
        self.assertIs(shows_shaken(PLAIN, script, RIGHT, 2, Shaken(0, 1, ("block 1", "parity 0 0"))), True)
        for value in any_values():
            self.assertIs(shows_shaken(PLAIN, Script(DAY, "put a 0 1"), RIGHT, 1, value), False)
            self.assertIs(shows_shaken(PLAIN, Script(DAY, "put a 0 1"), RIGHT, 1, Shaken(value, value, value)), False)

    def test_a_layout_that_does_not_fit_ends_the_look(self):
        layout = Layout(DAY, Blocks(Every(1)))
        script = Script(DAY, "put a 0 1", "lay pages 1 ; blocks keys every 1", "put a 0 2", "lay blocks keys every 1", "put b 0 3")
        self.assertEqual(steady(layout, script, Order("block"), 0), Steady(2))
        self.assertFalse(steady(layout, Script(DAY, "put a 0 1", "lay buckets 1", "put a 0 1"), Order("block"), 1))
        # A line lay that is refused changes nothing.
        script = Script(DAY, "lose block 0", "lay buckets 1", "put b 0 3")
        self.same(outline(layout, script)[1], "refused Untold")
        self.assertEqual(steady(layout, script, Order("block"), 0), Shaken(2, 0, ()))
        self.assertIs(shows_shaken(layout, script, Order("block"), 0, Shaken(2, 1, ())), True)
        ended = Script(DAY, "lay pages 1 ; blocks keys every 1", "lose block 0 , page 0", "put b 0 3", "lay blocks keys every 1")
        self.assertIs(shows_shaken(layout, ended, Order("block"), 0, Shaken(2, 0, ())), False)
        self.assertEqual(steady(layout, ended, Order("block"), 2), Steady(0))

    def test_safe_orders_are_steady(self):
        seen = 0
        kinds = ["put", "put", "add", "bring", "back", "ask", "mark", "asked", "undo", "recover", "heal"]
        for at, layout in enumerate(SMALL):
            for order, many, journal in itertools.product(orders_for(layout)[:3], (0, 1), ("none", "old", "both")):
                if not judge_order(layout, order, many, journal):
                    continue
                _, script = some_script(3000 + at, 6, kinds, layout)
                self.assertTrue(steady(layout, script, order, many, journal))
                seen += 1
        self.assertGreater(seen, 20)

    def test_just_two_thousand_runs(self):
        # A put of PLAIN has 4 moments with a journal, which makes 3 lots of one unit, or 4 where it is written.
        self.assertEqual(len(list(made_runs(PLAIN, Script(DAY, "put a 0 1"), RIGHT, 1, "both"))), 3 + 4 + 4 + 4)
        self.same(steady(PLAIN, Script(DAY, *["put a 0 1"] * 133), RIGHT, 1, "both").runs, 1995)
        self.raises(TooMany("runs", 2000), steady, PLAIN, Script(DAY, *["put a 0 1"] * 134), RIGHT, 1, "both")
        alone = Layout(DAY, Blocks(Every(1)))
        self.same(steady(alone, Script(DAY, *["put b 0 1"] * 1000), Order("block"), 0).runs, 2000)
        self.raises(TooMany("runs", 2000), steady, alone, Script(DAY, *["put b 0 1"] * 1001), Order("block"), 0)
        # It is reckoned ahead of any crash that shakes the run.
        self.raises(TooMany("runs", 2000), steady, alone, Script(DAY, *["put b 0 1"] * 501), Order("block"), 1)
        self.same(steady(alone, Script(DAY, *["put b 0 1"] * 500), Order("block"), 1).line, 0)
        self.assertIs(shows_shaken(alone, Script(DAY, *["put b 0 1"] * 501), Order("block"), 1, Shaken(500, 0, ("block 1",))), True)

    def test_errors_in_their_order(self):
        good = {"layout": PLAIN, "script": Script(DAY), "order": RIGHT, "many": 1, "journal": "none"}
        wrong = [("layout", 0, BadLayout("layout")), ("script", Script(TWO), BadVault("script")), ("order", Order("block"), BadOrder("order")),
                 ("many", 3, BadCount(3)), ("journal", "x", BadRule("journal"))]
        self.raises_first(steady, good, wrong)
        self.raises_first(shows_shaken, {**good, "value": 0}, wrong)
        for value in any_values():
            self.raises(BadVault("script"), steady, PLAIN, value, None, None, None)
            self.raises(BadOrder("order"), steady, PLAIN, Script(DAY), value, None, None)
            if not (is_int(value) and 0 <= value <= 2):
                self.raises(BadCount(value), steady, PLAIN, Script(DAY), RIGHT, value, None)
            self.raises(BadRule("journal"), steady, PLAIN, Script(DAY), RIGHT, 0, value)
        self.assertRaises(NoDeed, Vault(PLAIN).heal)
        self.assertEqual(steady(Layout(Shape(["a"], 1), Buckets(1)), Script(Shape(["a"], 1)), Order("bucket"), 2), Steady(0))


if __name__ == "__main__":
    unittest.main()
