"""Plans: how an integer is worked out of answers."""

from math import gcd

from rowvault.asked import check_layout
from rowvault.checks import is_whole, is_whole_from
from rowvault.errors import BadCount, BadPlan, BadUnit, NoUnit
from rowvault.images import Image
from rowvault.plan_texts import MOST_INDEX, take_steps
from rowvault.questions import Question
from rowvault.units import in_order, is_unit
from rowvault.words import whole_text, words_of
from rowvault.work import given_work, joined_work, reading_work, scaled_work


class Plan:
    """What all plans have; only the classes below it are made.

    Each of them has the units that it reads, in order, and its work: a sum of what it reads.
    """

    def sum_on(self, layout):
        """A bottom, a question and a number: bottom times what it works out is the answer and the number."""
        return summed_on(self, layout)

    def __call__(self, image):
        return worked_out(self, image)

    def __add__(self, other):
        return Added(self, plan_of(other))

    def __sub__(self, other):
        return Less(self, plan_of(other))

    def __mul__(self, other):
        return Scaled(self, other)

    def __floordiv__(self, other):
        return Over(self, other)

    def __neg__(self):
        return Scaled(self, -1)

    def __eq__(self, other):
        return isinstance(other, Plan) and str(self) == str(other)

    def __str__(self):
        return "plan"

    @classmethod
    def read(cls, text):
        """The plan with this text."""
        steps, words = take_steps(words_of(text))
        words.end()
        return plan_by(steps)


class Read(Plan):
    """An answer of a unit."""

    def __init__(self, unit, index):
        if not is_unit(unit):
            raise BadUnit(unit)
        if not is_whole_from(index, 0, MOST_INDEX):
            raise BadCount(index)
        self.unit = unit
        self.index = index
        self.units = (unit,)
        self._work = reading_work(unit, index)

    def sum_on(self, layout):
        """As all plans tell it."""
        return summed_on(self, layout)

    def __call__(self, image):
        return worked_out(self, image)

    def __add__(self, other):
        return Added(self, plan_of(other))

    def __sub__(self, other):
        return Less(self, plan_of(other))

    def __mul__(self, other):
        return Scaled(self, other)

    def __floordiv__(self, other):
        return Over(self, other)

    def __neg__(self):
        return Scaled(self, -1)

    def __eq__(self, other):
        return isinstance(other, Read) and self.unit == other.unit and self.index == other.index

    def __str__(self):
        return f"read {self.unit} {self.index}"


class Given(Plan):
    """An integer."""

    def __init__(self, value):
        check_value(value)
        self.value = value
        self.units = ()
        self._work = given_work(value)

    def sum_on(self, layout):
        """As all plans tell it."""
        return summed_on(self, layout)

    def __call__(self, image):
        return worked_out(self, image)

    def __add__(self, other):
        return Added(self, plan_of(other))

    def __sub__(self, other):
        return Less(self, plan_of(other))

    def __mul__(self, other):
        return Scaled(self, other)

    def __floordiv__(self, other):
        return Over(self, other)

    def __neg__(self):
        return Scaled(self, -1)

    def __eq__(self, other):
        return isinstance(other, Given) and self.value == other.value

    def __str__(self):
        return f"given {whole_text(self.value)}"


class Added(Plan):
    """One plan and another one."""

    def __init__(self, one, other):
        check_plan(one, "one")
        check_plan(other, "other")
        self._work = joined_work(one._work, other._work, 1)
        self.one = one
        self.other = other
        self.units = in_order(self._work.read_units())

    def sum_on(self, layout):
        """As all plans tell it."""
        return summed_on(self, layout)

    def __call__(self, image):
        return worked_out(self, image)

    def __add__(self, other):
        return Added(self, plan_of(other))

    def __sub__(self, other):
        return Less(self, plan_of(other))

    def __mul__(self, other):
        return Scaled(self, other)

    def __floordiv__(self, other):
        return Over(self, other)

    def __neg__(self):
        return Scaled(self, -1)

    def __eq__(self, other):
        return isinstance(other, Added) and self.one == other.one and self.other == other.other

    def __str__(self):
        return f"( {str(self.one)} + {str(self.other)} )"


class Less(Plan):
    """One plan less another one."""

    def __init__(self, one, other):
        check_plan(one, "one")
        check_plan(other, "other")
        self._work = joined_work(one._work, other._work, -1)
        self.one = one
        self.other = other
        self.units = in_order(self._work.read_units())

    def sum_on(self, layout):
        """As all plans tell it."""
        return summed_on(self, layout)

    def __call__(self, image):
        return worked_out(self, image)

    def __add__(self, other):
        return Added(self, plan_of(other))

    def __sub__(self, other):
        return Less(self, plan_of(other))

    def __mul__(self, other):
        return Scaled(self, other)

    def __floordiv__(self, other):
        return Over(self, other)

    def __neg__(self):
        return Scaled(self, -1)

    def __eq__(self, other):
        return isinstance(other, Less) and self.one == other.one and self.other == other.other

    def __str__(self):
        return f"( {str(self.one)} - {str(self.other)} )"


class Scaled(Plan):
    """A plan times an integer."""

    def __init__(self, one, value):
        check_plan(one, "one")
        check_value(value)
        self._work = scaled_work(one._work, value, 1)
        self.one = one
        self.value = value
        self.units = one.units

    def sum_on(self, layout):
        """As all plans tell it."""
        return summed_on(self, layout)

    def __call__(self, image):
        return worked_out(self, image)

    def __add__(self, other):
        return Added(self, plan_of(other))

    def __sub__(self, other):
        return Less(self, plan_of(other))

    def __mul__(self, other):
        return Scaled(self, other)

    def __floordiv__(self, other):
        return Over(self, other)

    def __neg__(self):
        return Scaled(self, -1)

    def __eq__(self, other):
        return isinstance(other, Scaled) and self.one == other.one and self.value == other.value

    def __str__(self):
        return f"( {str(self.one)} * {whole_text(self.value)} )"


class Over(Plan):
    """A plan divided by an integer from 1 on."""

    def __init__(self, one, value):
        check_plan(one, "one")
        check_value(value)
        if value < 1:
            raise BadPlan("value")
        self._work = scaled_work(one._work, 1, value)
        self.one = one
        self.value = value
        self.units = one.units

    def sum_on(self, layout):
        """As all plans tell it."""
        return summed_on(self, layout)

    def __call__(self, image):
        return worked_out(self, image)

    def __add__(self, other):
        return Added(self, plan_of(other))

    def __sub__(self, other):
        return Less(self, plan_of(other))

    def __mul__(self, other):
        return Scaled(self, other)

    def __floordiv__(self, other):
        return Over(self, other)

    def __neg__(self):
        return Scaled(self, -1)

    def __eq__(self, other):
        return isinstance(other, Over) and self.one == other.one and self.value == other.value

    def __str__(self):
        return f"( {str(self.one)} // {whole_text(self.value)} )"


def check_plan(value, part):
    """Raise BadPlan unless it is a plan."""
    if not isinstance(value, Plan):
        raise BadPlan(part)


def check_value(value):
    """Raise BadPlan unless it is an integer."""
    if not is_whole(value):
        raise BadPlan("value")


def plan_of(value):
    """The plan of an integer, or the value itself."""
    return Given(value) if is_whole(value) else value


def check_reads(plan, layout):
    """Raise NoUnit with the first unit that the plan reads, as it is written, and the layout does not answer so."""
    for unit, index in plan._work.reads:
        if unit not in layout or index >= len(layout[unit]):
            raise NoUnit(unit)


def worked_out(plan, image):
    """What a plan works out of an image."""
    if not isinstance(image, Image):
        raise BadPlan("image")
    check_reads(plan, image.layout)
    return worked_out_by(plan, image)


def worked_out_by(plan, answers):
    """What a plan works out of the answers by units; the plan reads no other ones."""
    work = plan._work
    total = sum([weight * answers[unit][index] for (unit, index), weight in work.weights.items()]) + work.number
    if total // work.bottom * work.bottom != total:
        raise BadPlan("rest")
    return total // work.bottom


def summed_on(plan, layout):
    """The bottom, the question and the number of a plan on a layout, in lowest terms."""
    check_layout(layout)
    check_reads(plan, layout)
    work = plan._work
    weights = {place: weight_at(work, layout, place) for place in layout.shape.places}
    common = gcd(work.bottom, work.number)
    for weight in weights.values():
        common = gcd(common, weight)
    question = Question(layout.shape, {place: weight // common for place, weight in weights.items()})
    return work.bottom // common, question, work.number // common


def weight_at(work, layout, place):
    """The weight of a place in the answers of a work together."""
    return sum([weight * layout[unit][index][place] for (unit, index), weight in work.weights.items()])


def plan_by(steps):
    """The plan of steps, each one behind those of which it is made."""
    plans = []
    for step in steps:
        if step[0] == "read":
            plans.append(Read(step[1], step[2]))
        elif step[0] == "given":
            plans.append(Given(step[1]))
        elif step[0] in ("*", "//"):
            one = plans.pop()
            plans.append(Scaled(one, step[1]) if step[0] == "*" else Over(one, step[1]))
        else:
            other = plans.pop()
            one = plans.pop()
            plans.append(Added(one, other) if step[0] == "+" else Less(one, other))
    return plans[0]
