"""What units tell of a question, some places being bare."""

from rowvault.asked import asked_of, bare_part, check_layout, check_question, check_table
from rowvault.errors import BadRule
from rowvault.layouts import told_units
from rowvault.spans import Span, table_of, vector_but
from rowvault.tables import Table
from rowvault.vectors import cleared, direction_at, lead_of, rows_of


class Told:
    """A paper: bottom times the question is the sum of the answers, each times its weight."""

    def __init__(self, bottom, weights):
        self.bottom = bottom
        self.weights = weights

    def __eq__(self, other):
        return isinstance(other, Told) and self.bottom == other.bottom and self.weights == other.weights


class Parted:
    """A false paper: two tables that are alike in the units, but unlike in the question."""

    def __init__(self, one, other):
        self.one = one
        self.other = other

    def __bool__(self):
        return False

    def __eq__(self, other):
        return isinstance(other, Parted) and self.one == other.one and self.other == other.other


class Teller:
    """What some units in order tell, some places being bare: reckoned once, for any questions."""

    def __init__(self, layout, units, bare):
        self._shape = layout.shape
        self._blank = bare
        pairs = list(layout.answers(units))
        self._answer_keys = [key for key, answer in pairs]
        # A column behind the places tells how often an answer is in a row.
        first = len(layout.shape)
        vectors = [{**vector_but(pairs[at][1], bare), first + at: 1} for at in range(len(pairs))]
        self._made = rows_of(vectors, first)

    def tells(self, question):
        """Whether the units tell a question."""
        return lead_of(cleared(vector_but(question, self._blank), self._made), len(self._shape)) < 0

    def paper_on(self, question):
        """A Told of a question, or a Parted."""
        first = len(self._shape)
        own = first + len(self._answer_keys)
        rest = cleared({**vector_but(question, self._blank), own: 1}, self._made)
        free = lead_of(rest, first)
        if free >= 0:
            return Parted(Table(self._shape), table_of(self._shape, direction_at(free, self._made)))
        pairs = [(key, rest.get(first + at, 0)) for at, key in enumerate(self._answer_keys)]
        return Told(rest[own], {key: -weight for key, weight in pairs if weight != 0})


def told(layout, units, question, bare=None):
    """A Told of the question by the units, or a Parted."""
    some, none = asked_of(layout, units, question, bare)
    return Teller(layout, some, none).paper_on(question)


def told_part(layout, units, bare=None):
    """The part of the places whose amounts the units tell."""
    check_layout(layout)
    some = told_units(layout, units)
    none = bare_part(layout, bare)
    return span_but(layout, some, none).told_part() | none


def beside(layout, units, question, table, bare=None):
    """A table like this one in the units and the bare places, unlike in the question; or None."""
    check_layout(layout)
    some = told_units(layout, units)
    check_question(layout, question)
    check_table(layout, table)
    none = bare_part(layout, bare)
    direction = span_but(layout, some, none).direction_for(question & ~none)
    return None if direction is None else table + direction


def work_out(paper, answers):
    """The answer to a question by a Told of it."""
    if not isinstance(paper, Told):
        raise BadRule("paper")
    worths = [weight * answers[unit][index] for (unit, index), weight in paper.weights.items()]
    return sum(worths) // paper.bottom


def span_but(layout, units, bare):
    """The span of the answers of units in order, but for their weights at bare places."""
    questions = [question & ~bare for key, question in layout.answers(units)]
    return Span(layout.shape, *questions)
