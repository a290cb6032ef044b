"""Plans that are judged for all tables, and plans that are made for a question."""

from rowvault.asked import asked_of, check_layout, check_question
from rowvault.errors import BadPlan, Untold
from rowvault.plans import Added, Given, Less, Over, Plan, Read, Scaled
from rowvault.tables import Table
from rowvault.told import Teller


class RightPlan:
    """A paper: the units of a plan that works out the answer for all tables."""

    def __init__(self, units):
        self.units = units

    def __eq__(self, other):
        return isinstance(other, RightPlan) and self.units == other.units


class WrongPlan:
    """A false paper: a table for which a plan works out another number than the answer."""

    def __init__(self, table):
        self.table = table

    def __bool__(self):
        return False

    def __eq__(self, other):
        return isinstance(other, WrongPlan) and self.table == other.table


def judge_plan(plan, layout, question):
    """A RightPlan of a plan for a question, or a WrongPlan."""
    check_layout(layout)
    check_question(layout, question)
    if not isinstance(plan, Plan):
        raise BadPlan("plan")
    bottom, asked, number = plan.sum_on(layout)
    if number != 0:
        return WrongPlan(Table(layout.shape))
    for place in layout.shape.places:
        if asked[place] != bottom * question[place]:
            return WrongPlan(Table(layout.shape, {place: 1}))
    return RightPlan(plan.units)


def plan_for(layout, units, question):
    """A plan for the question that reads none but these units."""
    some, none = asked_of(layout, units, question, None)
    paper = Teller(layout, some, none).paper_on(question)
    if not paper:
        raise Untold(paper)
    plan = None
    for (unit, index), weight in paper.weights.items():
        plan = with_answer(plan, Read(unit, index), weight)
    if plan is None:
        return Given(0)
    return plan if paper.bottom == 1 else Over(plan, paper.bottom)


def with_answer(plan, answer, weight):
    """A plan, or None for nothing, and an answer so many times; three plans more at most."""
    if plan is None:
        return answer if weight == 1 else Scaled(answer, weight)
    if weight in (1, -1):
        return Added(plan, answer) if weight == 1 else Less(plan, answer)
    return Added(plan, Scaled(answer, weight))
