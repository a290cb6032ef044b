"""The whole program: told, images, plans, vaults, books, scripts and desks answer alike, or refuse alike."""

import random
import unittest

from rowvault.alike import common, tells
from rowvault.books import Book
from rowvault.desk import Desk
from rowvault.effects import Answer, outline, steady
from rowvault.errors import TooMany, Untold, VaultError
from rowvault.images import Image
from rowvault.judged import judge_plan, plan_for
from rowvault.layouts import Layout
from rowvault.losses import covers, rebuilt, strength, units_left
from rowvault.orders import Order, first_safe, judge_order
from rowvault.parts import Part
from rowvault.polys import Poly, told_poly
from rowvault.questions import Question
from rowvault.reader import read
from rowvault.readings import partings, readings
from rowvault.scripts import Script, play
from rowvault.spans import Span
from rowvault.spoils import finds, rights
from rowvault.texts import write
from rowvault.told import beside, told, told_part, work_out
from rowvault.units import units_text
from rowvault.vaults import Vault
from tests.crashed import orders_for
from tests.helpers import Case
from tests.papers import tells_all
from tests.store import SHARED, some_question, some_table


def some_stores(seed, many):
    """A layout, a table, lost units, and a question."""
    chance = random.Random(seed)
    for _ in range(many):
        layout = chance.choice(SHARED)
        lost = [unit for unit in layout if chance.random() < 0.4]
        yield chance, layout, some_table(chance, layout.shape), lost, some_question(chance, layout)


def answer_of(call, *given):
    """What a call answers, or the class of the error that it raises."""
    try:
        return call(*given)
    except VaultError as error:
        return type(error)


class Whole(Case):
    def test_one_question_asked_in_all_ways(self):
        seen = {True: 0, False: 0}
        for chance, layout, table, lost, question in some_stores(1, 260):
            left = units_left(layout, lost)
            held = tells_all(layout, left, [question])
            seen[held] += 1
            expected = question(table) if held else Untold
            paper = told(layout, left, question)
            image = Image(layout, table)
            self.assertIs(bool(paper), held)
            if held:
                self.same(work_out(paper, {unit: image[unit] for unit in left}), expected)
                self.same(beside(layout, left, question, table), None)
            else:
                other = beside(layout, left, question, table)
                self.assertTrue(all(one(other) == one(table) for unit in left for one in layout[unit]) and question(other) != question(table))
            self.same(answer_of(image.ask, question, left), expected)
            vault = Vault(layout, table)
            vault.lose(*lost)
            self.same(answer_of(vault.ask, question), expected)
            self.same(answer_of(read(write(vault)).ask, question), expected)
            self.same(answer_of(lambda: plan_for(layout, left, question)(image)), expected)
            self.same(answer_of(lambda: vault.follow(plan_for(layout, left, question))), expected)
            if held:
                self.assertTrue(judge_plan(plan_for(layout, left, question), layout, question))
            self.same(Book(layout.shape, ("one", question)).told_by(layout, left), ("one",) if held else ())
            script = Script(layout.shape, f"lose {units_text(lost)}", f"ask {question}")
            self.same(play(script, Vault(layout, table))[1], expected if held else "refused Untold")
            line = outline(layout, script)[1]
            self.same(line.question(table) + line.number if isinstance(line, Answer) else line, expected if held else "refused Untold")
            self.desk(layout, table, lost, question, str(expected) if held else "refused Untold")
            self.assertIs(question in Span(layout.shape, *[one for unit in left for one in layout[unit]]), held)
            self.assertIs(bool(told_poly(layout, left, Poly.of(question) * Poly.of(question))), held)
            self.assertIs(any(set(cut) <= set(lost) for cut in partings(layout, question)), not held)
            self.assertIs(any(not set(lot) & set(lost) for lot in readings(layout, question)), held)
        self.assertGreater(min(seen.values()), 60)

    def desk(self, layout, table, lost, question, expected):
        desk = Desk()
        lines = [f"shape {layout.shape}", *[f"kind {kind}" for kind in layout.kinds], f"question q {question}", "open"]
        lines += [f"put {key} {day} {table[key, day]}" for key, day in table]
        lines += [f"lose {unit}" for unit in lost]
        told_so = desk.run(*lines, "ask q", f"told q {units_text(units_left(layout, lost))}")
        if "refused Untold" in told_so[:-2]:
            # The layout tells some place not even with all units, so the table could not be put.
            return
        self.same(told_so[-2:], [expected, "parted" if expected == "refused Untold" else "told"])

    def test_all_places(self):
        for chance, layout, table, lost, _ in some_stores(2, 80):
            left = units_left(layout, lost)
            part = told_part(layout, left)
            vault = Vault(layout, table)
            vault.lose(*lost)
            for place in layout.shape:
                self.assertIs(place in part, place in vault)
                self.same(answer_of(vault.__getitem__, place), table[place] if place in part else Untold)
            whole = table if part == Part.whole(layout.shape) else Untold
            for back in (answer_of(vault.table_back), answer_of(Image(layout, table).table_back, left)):
                self.assertTrue(back == whole)
            order = next(iter(orders_for(layout)), None)
            if whole == table and order is not None:
                vault.mark("now")
                self.assertEqual(vault.marks["now"], table)

    def test_facts(self):
        """Facts that the document states across its modules."""
        for chance, layout, table, lost, question in some_stores(3, 80):
            held = rebuilt(layout, lost)
            self.assertIs(bool(held), tells_all(layout, units_left(layout, lost), [one for unit in lost for one in layout[unit]]))
            vault = Vault(layout, table)
            vault.lose(*lost)
            self.assertIs(set(vault.bring_back()) == set(lost), bool(held) or not lost)
            for many in (0, 1, 2):
                if many <= len(layout):
                    self.assertIs(bool(finds(layout, many)), bool(covers(layout, many)))
                    twice = min(2 * many, len(layout))
                    self.assertIs(bool(rights(layout, many)), bool(covers(layout, twice)))
            if any(one for _, one in layout.answers()):
                most = strength(layout).many
                self.assertTrue(covers(layout, most))
                self.assertFalse(covers(layout, most + 1))
            other = chance.choice([one for one in SHARED if one.shape == layout.shape])
            both = common(layout, other)
            self.assertIs(bool(tells(layout, other)), len(both) == len(other.span_of(other.units)))
            self.assertEqual(question in both, all(tells_all(one, one.units, [question]) for one in (layout, other)))

    def test_safe_orders_and_steady_runs(self):
        seen = 0
        for chance, layout, table, _, _ in some_stores(4, 30):
            for many, journal in ((0, "none"), (1, "both"), (1, "old")):
                try:
                    order = first_safe(layout, many, journal)
                except TooMany:
                    continue
                if not isinstance(order, Order):
                    continue
                self.assertTrue(judge_order(layout, order, many, journal))
                places = [chance.choice(layout.shape.places) for _ in range(3)]
                script = Script(layout.shape, *[f"put {key} {day} {chance.randint(-5, 5)}" for key, day in places])
                self.assertTrue(steady(layout, script, order, many, journal))
                seen += 1
        self.assertGreater(seen, 10)

    def test_layouts_of_one_shape_lead_one_store(self):
        for chance, layout, table, lost, question in some_stores(5, 60):
            others = [one for one in SHARED if one.shape == layout.shape]
            vault = Vault(layout, table)
            for other in others:
                held = tells(vault.layout, other) and True
                told_so = answer_of(vault.exchange, other)
                self.same(told_so, None if held else Untold)
                if held:
                    self.assertEqual(vault, Vault(other, table))
            text = "\n".join(f"lay {' ; '.join(str(kind) for kind in one.kinds)}" for one in others if one.kinds)
            self.assertEqual(len(play(Script.read(text, layout.shape), Vault(layout, table))), len([one for one in others if one.kinds]))
            self.assertEqual(Question.read(str(question), layout.shape), question)
            self.assertEqual(Layout.read(str(layout)), layout)


if __name__ == "__main__":
    unittest.main()
