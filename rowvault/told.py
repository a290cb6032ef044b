"""What units tell of a question, some places being bare."""

from rowvault.asked import asked_of, bare_part, check_layout, check_question, check_table
from rowvault.errors import BadRule
from rowvault.layouts import told_units
from rowvault.spans import Span, table_of, vector_but
from rowvault.tables import Table
from rowvault.weighers import Weigher


class Told:
    """A paper: bottom times the question is the sum of the answers, each times its weight."""

    def __init__(self, bottom, weights):
        self.bottom = bottom
        self.weights = weights

    def __eq__(self, other):
        return isinstance(other, Told) and self.bottom == other.bottom and self.weights == other.weights


class Parted:
    """A false paper: two tables that are alike in the units, but unlike in the question."""

    def __init__(self, one, other):
        self.one = one
        self.other = other

    def __bool__(self):
        return False

    def __eq__(self, other):
        return isinstance(other, Parted) and self.one == other.one and self.other == other.other


class Teller:
    """What some units in order tell, some places being bare: reckoned once, for any questions."""

    def __init__(self, layout, units, bare):
        self._shape = layout.shape
        self._blank = bare
        pairs = list(layout.answers(units))
        self._answer_keys = [key for key, answer in pairs]
        self._weigher = Weigher([vector_but(answer, bare) for key, answer in pairs], len(layout.shape))

    def can_tell(self, question):
        """Whether the units tell a question."""
        return self._weigher.can_tell(vector_but(question, self._blank))

    def paper_on(self, question):
        """A Told of a question, or a Parted."""
        vector = vector_but(question, self._blank)
        weighed = self._weigher.weighed(vector)
        if weighed is None:
            return Parted(Table(self._shape), table_of(self._shape, self._weigher.direction_for(vector)))
        bottom, weights = weighed
        return Told(bottom, {self._answer_keys[at]: weight for at, weight in weights.items()})


def told(layout, units, question, bare=None):
    """A Told of the question by the units, or a Parted."""
    some, none = asked_of(layout, units, question, bare)
    return Teller(layout, some, none).paper_on(question)


def told_part(layout, units, bare=None):
    """The part of the places whose amounts the units tell."""
    check_layout(layout)
    some = told_units(layout, units)
    none = bare_part(layout, bare)
    return span_but(layout, some, none).told_part() | none


def beside(layout, units, question, table, bare=None):
    """A table like this one in the units and the bare places, unlike in the question; or None."""
    check_layout(layout)
    some = told_units(layout, units)
    check_question(layout, question)
    check_table(layout, table)
    none = bare_part(layout, bare)
    direction = span_but(layout, some, none).direction_for(question & ~none)
    return None if direction is None else table + direction


def work_out(paper, answers):
    """The answer to a question by a Told of it."""
    if not isinstance(paper, Told):
        raise BadRule("paper")
    worths = [weight * answers[unit][index] for (unit, index), weight in paper.weights.items()]
    return sum(worths) // paper.bottom


def span_but(layout, units, bare):
    """The span of the answers of units in order, but for their weights at bare places."""
    questions = [question & ~bare for key, question in layout.answers(units)]
    return Span(layout.shape, *questions)
