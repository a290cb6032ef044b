"""Plans judged for all tables, against tables worked out by exact fractions; plans that are made for questions."""

import random
import unittest

from rowvault.cuts import Every
from rowvault.errors import BadLayout, BadPlan, BadQuestion, BadUnit, NoUnit, TooMany, Untold
from rowvault.images import Image
from rowvault.judged import RightPlan, WrongPlan, judge_plan, plan_for
from rowvault.kinds import Blocks, Buckets, Cells, Pages, Stripes
from rowvault.layouts import Layout
from rowvault.plans import Added, Given, Less, Over, Plan, Read, Scaled
from rowvault.questions import Question
from rowvault.shapes import Shape
from rowvault.tables import Table
from tests.helpers import OTHER, TWO, Case, any_values
from tests.lost import SMALL
from tests.papers import is_right_parted, tells_all
from tests.test_plans import size_of, value_of

FULL = Layout(TWO, Blocks(Every(2)), Pages(1), Cells(2), Buckets(1))
AT = Question(TWO, {("a", 0): 1})


def least_tables(shape):
    """The table without amounts, and those with one amount, 1."""
    return [Table(shape), *[Table(shape, {place: 1}) for place in shape]]


def worked_out(plan, layout, table):
    """What a plan works out for a table, a fraction."""
    return value_of(plan, {unit: tuple(one(table) for one in layout[unit]) for unit in layout})


def is_right(plan, layout, question):
    # What a plan works out is a sum of multiples of amounts and of a number, so these tables settle it.
    return all(worked_out(plan, layout, table) == question(table) for table in least_tables(layout.shape))


def some_question(chance, layout, units):
    total = Question(layout.shape, {})
    for _, one in layout.answers(units):
        total = total + chance.choice([0, 1, -1, 2]) * one
    return total


def otherwise(plan, chance):
    """A plan with one thing otherwise: a weight, an integer, a read, a sign."""
    if isinstance(plan, Read):
        return chance.choice([lambda: Read(plan.unit, plan.index) * 2, lambda: plan + 1, lambda: plan - plan])()
    if isinstance(plan, Given):
        return Given(plan.value + chance.choice([1, -1]))
    if isinstance(plan, (Added, Less)):
        if chance.random() < 0.3:
            return (Less if isinstance(plan, Added) else Added)(plan.one, plan.other)
        if chance.random() < 0.5:
            return type(plan)(otherwise(plan.one, chance), plan.other)
        return type(plan)(plan.one, otherwise(plan.other, chance))
    if chance.random() < 0.5:
        return type(plan)(otherwise(plan.one, chance), plan.value)
    return type(plan)(plan.one, plan.value + 1)


class Judged(Case):
    def test_plans_and_plans_with_one_thing_otherwise(self):
        chance = random.Random(1)
        seen = {True: 0, False: 0}
        for _ in range(150):
            layout = chance.choice([one for one in SMALL if len(one)])
            units = [unit for unit in layout if chance.random() < 0.6]
            question = some_question(chance, layout, units)
            plan = plan_for(layout, units, question)
            self.assertIsInstance(plan, Plan)
            self.assertTrue(set(plan.units) <= set(units))
            self.assertEqual(judge_plan(plan, layout, question), RightPlan(plan.units))
            self.assertTrue(is_right(plan, layout, question))
            table = Table(layout.shape, {place: chance.randint(-99, 99) for place in layout.shape})
            self.same(plan(Image(layout, table)), question(table))
            for _ in range(4):
                if size_of(plan) > 55:
                    break
                other = plan * 3 // 3 + 0 if chance.random() < 0.2 else otherwise(plan, chance)
                paper = judge_plan(other, layout, question)
                seen[is_right(other, layout, question)] += 1
                self.assertIs(bool(paper), is_right(other, layout, question))
                if paper:
                    self.assertEqual(paper, RightPlan(other.units))
                    continue
                self.assertIs(type(paper), WrongPlan)
                self.assertIn(paper.table, least_tables(layout.shape))
                self.assertNotEqual(worked_out(other, layout, paper.table), question(paper.table))
        self.assertGreater(min(seen.values()), 20)

    def test_fractions_within(self):
        half = Read("block 0", 0) // 2
        self.assertTrue(judge_plan(half + half, FULL, AT))
        self.assertTrue(judge_plan(half * 2, FULL, AT))
        paper = judge_plan(half, FULL, AT)
        self.assertEqual(paper, WrongPlan(Table(TWO, {("a", 0): 1})))
        paper = judge_plan(Read("block 0", 0) + Given(1) // 2, FULL, AT)
        self.assertEqual(paper, WrongPlan(Table(TWO)))
        self.assertTrue(judge_plan(Given(0) // 7, FULL, Question(TWO, {})))
        self.assertTrue(judge_plan(Given(0), Layout(TWO), Question(TWO, {})))
        self.assertEqual(judge_plan(Given(0), Layout(TWO), AT), WrongPlan(Table(TWO, {("a", 0): 1})))

    def test_papers(self):
        self.assertEqual([RightPlan(None).units, bool(RightPlan(())), WrongPlan(5).table, bool(WrongPlan(5))], [None, True, 5, False])
        self.assertNotEqual(RightPlan(1), WrongPlan(1))
        self.assertEqual(RightPlan(units=(1,)), RightPlan((True,)))
        self.assertEqual(WrongPlan(table=2), WrongPlan(2))
        for paper in (RightPlan(1), WrongPlan(1)):
            for other in [RightPlan(2), WrongPlan(2), *any_values()]:
                self.assertNotEqual(paper, other)

    def test_errors_in_their_order(self):
        plan = Read("block 0", 0)
        self.raises_first(judge_plan, {"plan": plan, "layout": FULL, "question": AT},
                          [("layout", 5, BadLayout("layout")), ("question", Question(OTHER, {}), BadQuestion("question")),
                           ("plan", "read block 0 0", BadPlan("plan"))])
        self.raises(BadQuestion("question"), judge_plan, Read("page 7", 0), FULL, None)
        self.raises(NoUnit("page 7"), judge_plan, Read("page 7", 0) - Read("block 0", 2), FULL, AT)
        self.raises(NoUnit("block 0"), judge_plan, Read("block 0", 2), FULL, AT)
        for value in any_values():
            if not isinstance(value, Plan):
                self.raises(BadPlan("plan"), judge_plan, value, FULL, AT)


class Made(Case):
    def test_untold(self):
        chance = random.Random(2)
        seen = {True: 0, False: 0}
        for _ in range(120):
            layout = chance.choice([one for one in SMALL if len(one)])
            units = [unit for unit in layout if chance.random() < 0.5]
            question = Question(layout.shape, {place: chance.choice([0, 0, 1]) for place in layout.shape})
            held = tells_all(layout, units, [question])
            seen[held] += 1
            if held:
                self.assertTrue(is_right(plan_for(layout, units, question), layout, question))
                continue
            with self.assertRaises(Untold) as caught:
                plan_for(layout, tuple(units), question)
            self.assertTrue(is_right_parted(layout, units, question, caught.exception.paper))
        self.assertGreater(min(seen.values()), 20)

    def test_nodes(self):
        # Twenty places, each with a weight of its own: three plans for each, less one.
        wide = Shape(list("abcde"), 4)
        layout = Layout(wide, Blocks(Every(1)))
        question = Question(wide, {place: at + 2 for at, place in enumerate(wide)})
        plan = plan_for(layout, layout.units, question)
        self.assertEqual(size_of(plan), 59)
        self.assertTrue(judge_plan(plan, layout, question))
        # Twenty answers, and a divisor: just sixty plans at most.
        more = Shape(list("abcdef"), 6)
        some = Layout(more, Blocks(Every(1)), Stripes(2))
        units = [f"parity {at} 0" for at in range(10)] + [f"block {at}" for at in range(1, 20, 2)]
        question = Question(more, {place: at + 2 for at, place in enumerate(more.places[:20])})
        plan = plan_for(some, units, question)
        self.assertLessEqual(size_of(plan), 60)
        self.assertTrue(judge_plan(plan, some, question))
        # Weights of 1 and -1 want no plan of their own.
        question = Question(more, {place: -1 if at else 1 for at, place in enumerate(more.places[:30])})
        self.assertEqual(size_of(plan_for(some, [f"block {at}" for at in range(30)], question)), 59)
        # No plan with so few plans reads 36 answers.
        whole = Layout(more, Blocks(Every(1)))
        self.raises(TooMany("nodes", 60), plan_for, whole, whole.units, Question(more, {place: 3 for place in more}))
        halves = Layout(TWO, Cells(2), Stripes(2, 2), Blocks(Every(2)))
        self.assertTrue(judge_plan(plan_for(halves, ["parity 0 0", "parity 0 1"], AT), halves, AT))

    def test_nothing_to_read(self):
        plan = plan_for(FULL, [], Question(TWO, {}))
        self.same([plan.units, plan(Image(FULL, Table(TWO)))], [(), 0])

    def test_errors_in_their_order(self):
        good = {"layout": FULL, "units": ["block 0"], "question": AT}
        self.raises_first(plan_for, good, [("layout", FULL.units, BadLayout("layout")), ("units", "block 0", BadUnit(None)),
                                           ("question", TWO, BadQuestion("question"))])
        self.raises(BadUnit("block 2"), plan_for, FULL, ["block 0", "block 2", 5], AT)
        for value in any_values():
            if not isinstance(value, Layout):
                self.raises(BadLayout("layout"), plan_for, value, None, None)
                self.raises(BadLayout("layout"), judge_plan, None, value, None)
            if not isinstance(value, (list, tuple)):
                self.raises(BadUnit(None), plan_for, FULL, value, None)
            if not (isinstance(value, Question) and value.shape == TWO):
                self.raises(BadQuestion("question"), plan_for, FULL, (), value)


if __name__ == "__main__":
    unittest.main()
