"""Vaults, against a table and a lot of units that the tests keep beside them."""

import itertools
import random
import unittest

from rowvault import errors
from rowvault.cuts import Every
from rowvault.errors import (
    BadAmount, BadCount, BadLayout, BadName, BadOrder, BadPlace, BadPlan, BadQuestion, BadRule, BadTable, BadUnit, BadVault,
    Gone, NoDeed, NoName, NoUnit, Taken, Torn, Untold,
)
from rowvault.kinds import Blocks, Buckets, Cells, Pages, Stripes
from rowvault.layouts import Layout
from rowvault.look_vaults import shows_unhealed
from rowvault.orders import Order, first_safe
from rowvault.parts import Part
from rowvault.plans import Given, Plan, Read
from rowvault.questions import Question
from rowvault.readings import partings
from rowvault.tables import Table
from rowvault.vaults import Tear, Unhealed, Vault
from tests.crashed import DAY, JOURNALS, SMALL, along, orders_for, rows_behind, step_between, writes_for
from tests.helpers import OTHER, TWO, Case, any_values, is_int, is_of, is_place
from tests.papers import altered, is_right_parted
from tests.store import ALL, Refused, Store, run_of, some_question, some_table

FULL = Layout(TWO, Blocks(Every(2)), Pages(1), Cells(2), Buckets(1))
FEW = Layout(TWO, Blocks(Every(2)), Buckets(1))
PLAIN = Layout(DAY, Blocks(Every(1)), Stripes(2))
TABLE = Table(TWO, {("a", 0): 5, ("b", 1): -3})


def put(vault, place, amount):
    vault[place] = amount


def call_of(vault, deed):
    """The call of a vault that does a deed."""
    calls = {
        "put": lambda place, amount: put(vault, place, amount), "add": vault.add, "lose": lambda units: vault.lose(*units),
        "bring": vault.bring, "back": vault.bring_back, "ask": vault.ask, "asked": vault.ask_at, "mark": vault.mark,
        "undo": vault.undo, "recover": vault.recover, "heal": vault.heal, "crash": vault.crash,
        "lay": lambda kinds: vault.exchange(Layout(vault.layout.shape, *kinds)),
    }
    return lambda: calls[deed[0]](*deed[1:])


def right_unhealed(store, value):
    """As the document tells it, over any values, of a torn store."""
    if type(value) is not Unhealed or store.tear is None:
        return False
    for pair in (value.one, value.other):
        if type(pair) is not tuple or len(pair) != 2 or not is_of(pair[0], Table, store.layout.shape) or not is_int(pair[1]):
            return False
    step = step_between(store.layout, value.one, value.other)
    rows = rows_behind(store.layout, store.tear[1], store.tear[4], store.written())
    return step[-1] != 0 and not any(along(row, step) for unit in rows if unit in store.left for row in rows[unit])


class VaultCase(Case):
    def look(self, vault, store):
        """The vault is as the store that the test keeps."""
        answers = store.answers()
        units = list(store.layout.units)
        self.assertEqual(vault.layout, store.layout)
        self.same(vault.units_left, tuple(unit for unit in units if unit in store.left))
        self.same(vault.units_lost, tuple(unit for unit in units if unit not in store.left))
        self.same([len(vault), list(vault), bool(vault)], [len(store.log), [row[0] for row in store.log], bool(store.log)])
        self.assertEqual(vault.marks, store.marks)
        for unit in store.units():
            if unit in answers:
                self.same(vault.read_unit(unit), answers[unit])
            else:
                self.raises(Gone(unit), vault.read_unit, unit)
        if store.tear is None:
            self.assertIsNone(vault.torn)
        else:
            order, place, _, moment, journal = store.tear
            self.assertEqual(vault.torn, Tear(order, place, moment, journal))
            self.assertTrue(vault.torn)
        if "journal" not in store.units():
            self.raises(BadUnit("journal"), vault.read_unit, "journal")
        for place in store.layout.shape:
            self.assertIs(place in vault, store.tear is None and store.tells(store.at(place)))

    def do(self, vault, store, deed):
        """Both do a deed, or refuse it alike."""
        other = store.copy()
        twin = vault.twin()
        try:
            told = other.done(deed)
        except Refused as refused:
            with self.assertRaises(errors.VaultError) as caught:
                call_of(vault, deed)()
            error = caught.exception
            self.assertIs(type(error), refused.kind, deed)
            if refused.question is not None:
                units = [unit for unit in store.left if unit != "journal"]
                self.assertTrue(is_right_parted(store.layout, units, refused.question, error.paper))
            elif refused.kind is Untold:
                self.assertTrue(right_unhealed(store, error.paper))
                self.assertIs(shows_unhealed(vault, error.paper), True)
                self.assertIs(bool(error.paper), False)
            else:
                self.same(list(vars(error).values()), refused.fields)
            self.assertTrue(vault == twin)
            self.look(vault, store)
            return refused.kind
        self.same(call_of(vault, deed)(), told)
        store.__dict__.update(other.__dict__)
        self.look(vault, store)
        return None


class Drawn(VaultCase):
    def test_rows_of_deeds(self):
        seen = {}
        for seed in range(90):
            vault = None
            for store, deed in run_of(seed, 26):
                if vault is None:
                    vault = Vault(store.layout, store.table)
                    self.look(vault, store)
                beside = store.copy()
                kind = self.do(vault, beside, deed)
                seen[deed[0], kind] = seen.get((deed[0], kind), 0) + 1
        for word in ALL:
            self.assertGreater(seen.get((word, None), 0), 5, word)
        for case in [("put", Untold), ("put", Torn), ("add", Torn), ("lose", BadUnit), ("lose", Gone),
                     ("bring", Untold), ("bring", BadUnit), ("bring", Torn), ("ask", Untold), ("ask", Torn), ("asked", NoName), ("mark", Taken),
                     ("mark", Untold), ("undo", NoDeed), ("undo", Torn), ("recover", Torn), ("recover", NoDeed),
                     ("heal", NoDeed), ("crash", Untold), ("crash", Torn), ("crash", BadOrder), ("crash", BadCount), ("lay", Untold)]:
            self.assertGreater(seen.get(case, 0), 0, case)

    def test_trials(self):
        """Behind a trial, also one that an error leaves, the vault is as it was; trials within trials, too."""
        chance = random.Random(1)
        for seed in range(40):
            vault = None
            for store, deed in run_of(100 + seed, 12):
                if vault is None:
                    vault = Vault(store.layout, store.table)
                twin, kept = vault.twin(), store.copy()
                way = chance.randrange(4)
                if way == 0:
                    with vault.trial() as same:
                        self.assertIs(same, vault)
                        self.do(vault, store.copy(), deed)
                elif way == 1:
                    with self.assertRaises(ZeroDivisionError):
                        with vault.trial():
                            self.do(vault, store.copy(), deed)
                            1 // 0
                elif way == 2:
                    block = vault.trial()
                    with block:
                        inner = store.copy()
                        self.do(vault, inner, deed)
                        with block as same:
                            vault.lose(*[unit for unit in inner.left if unit != "journal"][:1])
                            self.assertIs(same, vault)
                        self.look(vault, inner)
                else:
                    self.same(vault.tried(lambda same: (self.do(same, store.copy(), deed), 7)[1]), 7)
                self.assertTrue(vault == twin)
                self.look(vault, kept)
                self.do(vault, store.copy(), deed)

    def test_an_error_goes_on(self):
        vault = Vault(FEW, TABLE)
        with self.assertRaises(Gone):
            vault.tried(lambda same: same.lose("block 0", "block 0"))
        with self.assertRaises(KeyError):
            vault.tried(work=lambda same: {}["x"])
        self.assertEqual(vault, Vault(FEW, TABLE))
        self.assertIsNone(vault.tried(lambda same: same.lose("block 0")))
        self.same(vault.units_lost, ())

    def test_twins_go_their_own_way(self):
        for seed in range(30):
            vault = None
            for store, deed in run_of(200 + seed, 14):
                if vault is None:
                    vault = Vault(store.layout, store.table)
                twin = vault.twin()
                self.assertTrue(twin == vault)
                self.look(twin, store)
                self.do(twin, store.copy(), deed)
                self.look(vault, store)
                self.do(vault, store.copy(), deed)
                self.assertTrue(twin == vault)


class Crashes(VaultCase):
    def test_each_moment_of_each_order_with_each_journal(self):
        seen = {}
        chance = random.Random(2)
        for layout in SMALL[:8]:
            for order, journal in itertools.product(orders_for(layout)[:4], JOURNALS):
                place = chance.choice(layout.shape.places)
                writes = writes_for(layout, order, place, journal)
                for moment in range(len(writes) + 1):
                    self.crash(layout, order, place, moment, journal, chance, seen)
        for word in ("recover", "heal"):
            for told in ("new", "old"):
                self.assertGreater(seen.get((word, told), 0), 20)
        self.assertGreater(seen["recover", Torn], 20)
        self.assertGreater(seen["heal", Untold], 20)

    def crash(self, layout, order, place, moment, journal, chance, seen):
        for losses in range(4):
            store = Store(layout, some_table(chance, layout.shape))
            vault = Vault(layout, store.table)
            if chance.random() < 0.4:
                self.do(vault, store, ("add", chance.choice(layout.shape.places), 3))
            self.do(vault, store, ("crash", order, place, chance.choice([store.table[place], 9]), moment, journal))
            lost = chance.sample(store.left, min(losses, len(store.left)))
            self.do(vault, store, ("lose", tuple(lost)))
            for word in ("recover", "heal"):
                one, other = vault.twin(), store.copy()
                kind = self.do(one, other, (word,))
                told = kind or ("new" if other.table != store.table or other.log != store.log else "old")
                seen[word, told] = seen.get((word, told), 0) + 1
                if kind is None:
                    self.do(one, other, ("undo",))

    def test_new_and_old_are_told_apart(self):
        vault = Vault(PLAIN, Table(DAY, {("a", 0): 1, ("b", 0): 5}))
        vault.crash(Order("block", "parity"), ("a", 0), 2, 1)
        same = vault.twin()
        self.same([vault.recover(), vault["a", 0], vault.read_unit("parity 0 0")], ["new", 2, (7,)])
        same.lose("block 1")
        with self.assertRaises(Untold) as caught:
            same.heal()
        self.assertIs(shows_unhealed(same, caught.exception.paper), True)
        self.assertIs(shows_unhealed(vault, caught.exception.paper), False)

    def test_the_log_behind_a_recovery(self):
        vault = Vault(PLAIN)
        vault.add(("b", 0), 4)
        for journal, moment, lost, told, words in (
                ("none", 1, (), "new", ["add", "put"]), ("none", 0, (), "old", ["add"]), ("new", 3, ("journal",), "new", []),
                ("change", 1, (), "new", ["add", "put"]), ("old", 1, (), "old", ["add"])):
            with vault.trial():
                vault.crash(Order("block", "parity"), ("a", 0), 7, moment, journal)
                vault.lose(*lost)
                twin = vault.twin()
                if journal == "new":
                    twin.lose("parity 0 0")
                    self.same([twin.heal(), list(twin)], ["new", []])
                if journal != "change":
                    self.same([vault.recover(), list(vault)], [told, words])
                else:
                    self.same([vault.heal(), list(vault), vault["a", 0]], ["new", words, 7])

    def test_safe_orders_recover(self):
        chance = random.Random(3)
        done = 0
        for layout, many, journal in itertools.product(SMALL, (0, 1, 2), JOURNALS):
            order = first_safe(layout, many, journal)
            if not order:
                continue
            table = some_table(chance, layout.shape)
            for place in layout.shape:
                writes = order.writes(layout, place, journal)
                for moment in range(len(writes) + 1):
                    vault = Vault(layout, table)
                    vault.crash(order, place, 77, moment, journal)
                    units = (["journal"] if "journal" in writes[:moment] else []) + list(layout.units)
                    vault.lose(*chance.sample(units, min(many, len(units))))
                    self.assertEqual(vault.table_back() if vault.recover() == "old" else vault.table_back().with_amount(place, table[place]), table)
                    done += 1
        self.assertGreater(done, 200)


class Answers(VaultCase):
    def test_behind_a_loss_just_without_a_parting(self):
        chance = random.Random(4)
        seen = {True: 0, False: 0}
        for layout in [one for one in SMALL if len(one) <= 9]:
            for _ in range(8):
                question = some_question(chance, layout)
                cuts = list(partings(layout, question))
                lost = chance.sample(layout.units, chance.randint(0, len(layout)))
                vault = Vault(layout, some_table(chance, layout.shape))
                vault.lose(*lost)
                held = not any(set(cut) <= set(lost) for cut in cuts)
                seen[held] += 1
                if held:
                    vault.ask(question)
                else:
                    self.assertRaises(Untold, vault.ask, question)
        self.assertGreater(min(seen.values()), 10)

    def test_plans(self):
        vault = Vault(FULL, TABLE)
        vault.lose("block 0", "page 1")
        self.same(vault.follow(Read("page 0", 0) * 3 + 1), 16)
        self.same(vault.follow(plan=Given(4)), 4)
        self.raises(Gone("block 0"), vault.follow, Read("page 1", 0) + Read("block 0", 0))
        self.raises(NoUnit("page 2"), vault.follow, Read("block 0", 0) + Read("page 2", 0))
        self.raises(NoUnit("block 1"), vault.follow, Read("block 1", 2))
        self.raises(NoUnit("journal"), vault.follow, Read("journal", 0))
        self.raises(BadPlan("rest"), vault.follow, Read("page 0", 0) // 2)
        self.raises(Gone("block 0"), vault.follow, (Read("block 0", 0) * 0 + 1) // 2)
        vault.crash(Order("block", "page", "cell", "bucket"), ("a", 0), 6, 1, "old")
        self.raises(Gone("block 0"), vault.follow, Read("block 0", 0))
        self.raises(NoUnit("journal"), vault.follow, Read("journal", 0))
        self.raises(Torn(), vault.follow, Read("page 0", 0))
        for value in any_values():
            if not isinstance(value, Plan):
                self.raises(BadPlan("plan"), vault.follow, value)

    def test_returned_dicts_belong_to_the_caller(self):
        vault = Vault(FEW, TABLE)
        vault.mark("then")
        marks = vault.marks
        marks["x"] = marks.pop("then")
        self.same(list(vault.marks), ["then"])
        answers = {"block 0": (1, 2), "bucket 1": (4,)}
        given = {"one": TABLE}
        other = Vault.of(FEW, answers, given)
        answers["block 1"], given["two"] = (5, 6), TABLE
        answers["block 0"] = (9, 9)
        self.same([other.read_unit("block 0"), other.units_lost, list(other.marks)], [(1, 2), ("block 1", "bucket 0"), ["one"]])

    def test_of(self):
        chance = random.Random(5)
        for _ in range(40):
            layout = chance.choice(SMALL)
            table = some_table(chance, layout.shape)
            lost = chance.sample(layout.units, chance.randint(0, len(layout)))
            vault = Vault(layout, table)
            vault.lose(*lost)
            answers = {unit: vault.read_unit(unit) for unit in layout if unit not in lost}
            marks = {"one": table} if chance.random() < 0.5 else None
            other = Vault.of(layout, answers, marks)
            self.assertEqual(other, vault)
            self.same([other.marks == (marks or {}), list(other), other.torn], [True, [], None])
            self.assertEqual(Vault.of(layout=layout, answers=answers, marks={}), vault)


class Equal(VaultCase):
    def test_equality(self):
        one = Vault(PLAIN)
        others = [Vault(PLAIN, Table(DAY, {("a", 0): 1})), Vault(Layout(DAY, Blocks(Every(1)))), Vault(PLAIN)]
        others[2].lose("block 0")
        for moment, journal in itertools.product((0, 1, 2), ("none", "old", "new")):
            torn = Vault(PLAIN)
            torn.crash(Order("block", "parity"), ("a", 0), 0, moment, journal)
            others.append(torn)
        back = Vault(PLAIN)
        back.crash(Order("parity", "block"), ("a", 0), 0, 0)
        others.append(back)
        for at, other in enumerate(others):
            self.assertIs(one == other, False, at)
            self.assertTrue(other == other.twin())
            for more in others[:at]:
                self.assertIs(more == other, False)
        # The amount of a put of which nothing is written is not kept; neither log nor marks count.
        torn = Vault(PLAIN)
        torn.crash(Order("block", "parity"), ("a", 0), 99, 0)
        self.assertTrue(torn == others[3])
        same = Vault(PLAIN)
        same.add(("a", 0), 0)
        same.mark("x")
        self.assertTrue(one == same)
        lost = others[4].twin()
        self.assertEqual(others[4].torn, Tear(Order("block", "parity"), ("a", 0), 0, "old"))
        lost.lose("block 0")
        self.assertIs(lost == others[4], False)
        alone = Vault(Layout(DAY, Blocks(Every(1))))
        fewer = Vault(PLAIN)
        fewer.lose("parity 0 0")
        self.assertIs(alone == fewer, False)
        for value in any_values():
            self.assertIs(one == value, False)
            self.assertIs(Unhealed(value, 1) == value, False)
        self.assertNotEqual(Unhealed(1, 2), Unhealed(1, 3))
        self.assertNotEqual(Unhealed(1, 2), Unhealed(2, 2))
        self.assertEqual(Tear(1, 2, 3, 4), Tear(order=1, place=2, moment=3, journal=4))
        self.assertNotEqual(Tear(1, 2, 3, 4), Tear(1, 2, 3, 5))

    def test_a_lost_journal(self):
        vault = Vault(PLAIN)
        vault.crash(Order("block", "parity"), ("a", 0), 5, 1, "both")
        self.same([vault.read_unit("journal"), vault.units_left, vault.units_lost], [(0, 5), PLAIN.units, ()])
        vault.lose("journal")
        self.raises(Gone("journal"), vault.read_unit, "journal")
        self.raises(Gone("journal"), vault.lose, "journal")
        self.same([vault.units_left, vault.units_lost, vault.recover()], [PLAIN.units, (), "old"])
        self.raises(BadUnit("journal"), vault.lose, "journal")


class Wrong(VaultCase):
    def refused(self, vault, error, call, *given):
        twin = vault.twin()
        self.raises(error, call, *given)
        self.assertTrue(vault == twin)
        self.same(list(vault), list(twin))

    def test_made_of_wrong_values(self):
        for value in any_values():
            if not isinstance(value, Layout):
                self.raises(BadLayout("layout"), Vault, value, 5)
                self.raises(BadLayout("layout"), Vault.of, value, None, 5)
            if value is not None and not is_of(value, Table, TWO):
                self.raises(BadTable("table"), Vault, FEW, value)
            if not isinstance(value, dict) or value:
                self.raises(BadVault("answers"), Vault.of, FEW, value, 5)
                if value is not None:
                    self.raises(BadVault("marks"), Vault.of, FEW, {}, value)
        for answers in ({"block 0": (1,)}, {"block 0": [1, 2]}, {"block 0": (1, True)}, {"block 2": (1, 2)}, {"journal": (1,)}, {0: (1, 2)}):
            self.raises(BadVault("answers"), Vault.of, FEW, answers)
        for marks in ({"days": TABLE}, {"x": None}, {"x": Table(OTHER)}, {1: TABLE}, {"then": TABLE, "X": TABLE}, [("x", TABLE)]):
            self.raises(BadVault("marks"), Vault.of, FEW, {}, marks)

    def test_wrong_values(self):
        whole, torn = Vault(FEW, TABLE), Vault(FEW, TABLE)
        torn.crash(Order("block", "bucket"), ("a", 0), 1, 1, "old")
        for vault in (whole, torn):
            for value in any_values():
                self.values(vault, value)

    def values(self, vault, value):
        is_unit = isinstance(value, str) and value in FEW
        if not is_unit:
            for call in (vault.read_unit, vault.lose, vault.bring):
                self.refused(vault, BadUnit(value), call, value)
            self.refused(vault, BadUnit(value), vault.lose, "block 0", value, "x")
        else:
            self.refused(vault, BadUnit(value), vault.bring, value)
        if not is_place(value, TWO):
            self.refused(vault, BadPlace(value), vault.__getitem__, value)
            self.refused(vault, BadPlace(value), put, vault, value, "x")
            self.refused(vault, BadPlace(value), vault.add, value, "x")
            self.refused(vault, BadPlace(value), vault.crash, Order("block", "bucket"), value, "x", None, None)
            self.assertIs(value in vault, False)
        if not is_int(value):
            self.refused(vault, BadAmount(value), put, vault, ("a", 0), value)
            self.refused(vault, BadAmount(value), vault.add, ("a", 0), value)
            self.refused(vault, BadAmount(value), vault.crash, Order("block", "bucket"), ("a", 0), value, None, None)
        if not is_of(value, Question, TWO):
            self.refused(vault, BadQuestion("question"), vault.ask, value)
        if not is_of(value, Layout, TWO):
            self.refused(vault, BadLayout("layout"), vault.exchange, value)
        if not (isinstance(value, str) and value in ("a", "b")):
            self.refused(vault, BadName(value), vault.mark, value)
        self.refused(vault, NoName(value), vault.ask_at, value, "x")
        self.refused(vault, BadOrder("order"), vault.crash, value, None, None, None, None)
        self.refused(vault, BadRule("journal"), vault.crash, Order("block", "bucket"), ("a", 0), 1, None, value)
        if not (is_int(value) and 0 <= value <= 2):
            self.refused(vault, BadCount(value), vault.crash, Order("block", "bucket"), ("a", 0), 1, value, "none")

    def test_order_of_errors(self):
        vault = Vault(FEW, TABLE)
        good = {"order": Order("block", "bucket"), "place": ("a", 0), "amount": 5, "moment": 1, "journal": "old"}
        wrong = [("order", Order("bucket"), BadOrder("order")), ("place", ("a", 2), BadPlace(("a", 2))), ("amount", True, BadAmount(True)),
                 ("journal", "ol", BadRule("journal")), ("moment", 4, BadCount(4))]
        self.raises_first(lambda **named: vault.tried(lambda same: same.crash(**named)), good, wrong)
        vault.mark("then")
        vault.crash(Order("block", "bucket"), ("a", 0), 5, 1)
        vault.lose("block 1")
        self.raises_first(lambda **named: None if named == good else vault.crash(**named), good, wrong)
        at, none = Question(TWO, {("a", 0): 1}), Question(TWO, {})
        for error, call, given in [
                (Torn(), vault.crash, tuple(good.values())), (Torn(), vault.ask, (at,)), (Torn(), vault.ask, (none,)),
                (Torn(), vault.table_back, ()), (Torn(), vault.bring, ("block 1",)), (Torn(), vault.bring_back, ()),
                (Torn(), vault.exchange, (FEW,)), (Torn(), vault.mark, ("other",)), (Taken("then"), vault.mark, ("then",)),
                (Torn(), vault.ask_at, ("then", at)), (NoName("other"), vault.ask_at, ("other", at)), (Torn(), vault.undo, ()),
                (BadQuestion("question"), vault.ask_at, ("then", 5)), (Torn(), vault.add, (("a", 0), 1)), (Torn(), put, (vault, ("a", 0), 1)),
                (Torn(), vault.__getitem__, (("a", 0),)), (BadUnit("block 0"), vault.bring, ("block 0",)), (Torn(), vault.follow, (Given(1),)),
                (Gone("block 1"), vault.follow, (Read("block 1", 0),)), (Gone("block 1"), vault.lose, ("bucket 0", "block 1", "x")),
                (BadUnit("x"), vault.lose, ("bucket 0", "x", "block 1")), (Gone("bucket 0"), vault.lose, ("bucket 0", "bucket 0", "x"))]:
            self.refused(vault, error, call, *given)
        for word in ("recover", "heal"):
            self.raises(NoDeed(), getattr(Vault(FEW), word))

    def test_untold_tells_the_first(self):
        vault = Vault(FEW, TABLE)
        vault.lose("block 0", "bucket 0")
        for call, question in ((vault.table_back, ("a", 0)), (lambda: vault.mark("x"), ("a", 0)), (lambda: vault.bring("block 0"), ("a", 0)),
                               (lambda: vault.exchange(Layout(TWO, Buckets(1), Pages(2))), None)):
            with self.assertRaises(Untold) as caught:
                call()
            asked = Question(TWO, {question: 1}) if question else Question.of(Part.of_keys(TWO, "a"))
            self.assertTrue(is_right_parted(FEW, vault.units_left, asked, caught.exception.paper))


class Looker(VaultCase):
    def test_with_one_thing_otherwise(self):
        chance = random.Random(6)
        seen = {True: 0, False: 0}
        for layout in SMALL[:6]:
            for order, journal in itertools.product(orders_for(layout)[:3], JOURNALS):
                place = chance.choice(layout.shape.places)
                moment = chance.randint(0, len(writes_for(layout, order, place, journal)))
                store = Store(layout, some_table(chance, layout.shape))
                vault = Vault(layout, store.table)
                if self.do(vault, store, ("crash", order, place, 3, moment, journal)) is not None:
                    continue
                self.do(vault, store, ("lose", tuple(chance.sample(store.left, min(2, len(store.left))))))
                for _ in range(12):
                    step = [chance.choice([0, 0, 1, -1]) for _ in layout.shape], chance.choice([1, -1, 2, 0])
                    table = Table(layout.shape, dict(zip(layout.shape, step[0])))
                    more = some_table(chance, layout.shape)
                    values = [Unhealed((more, 4), (more + table, 4 + step[1]))]
                    try:
                        vault.twin().heal()
                    except Untold as error:
                        values += [error.paper, Unhealed((more, 1), (more + error.paper.other[0], 1 + error.paper.other[1]))]
                        values += [altered(error.paper, chance, [more, 1]) for _ in range(4)]
                    for value in values:
                        wanted = right_unhealed(store, value)
                        self.assertIs(shows_unhealed(vault, value), wanted)
                        seen[wanted] += 1
        self.assertGreater(min(seen.values()), 50)

    def test_other_values(self):
        vault = Vault(PLAIN)
        for value in any_values():
            if not isinstance(value, Vault):
                self.raises(BadVault("vault"), shows_unhealed, value, None)
            self.assertIs(shows_unhealed(vault, value), False)
            self.assertIs(shows_unhealed(vault, Unhealed(value, value)), False)
        vault.crash(Order("block", "parity"), ("a", 0), 2, 1)
        for value in any_values():
            self.assertIs(shows_unhealed(vault, value), False)
            self.assertIs(shows_unhealed(vault, Unhealed(value, value)), False)
        self.assertEqual(Unhealed(1, 2), Unhealed(one=1, other=2))


if __name__ == "__main__":
    unittest.main()
