"""Effects: what scripts do for all tables at once."""

from rowvault.asked import check_layout
from rowvault.checks import is_whole_from
from rowvault.courses import Course
from rowvault.crashes import check_journal
from rowvault.errors import BadCount, BadVault, TooMany
from rowvault.orders import check_order
from rowvault.scripts import is_script_of, outcome
from rowvault.storms import Storm, lots_count, units_at
from rowvault.tables import Table

MOST_LOST = 2
MOST_RUNS = 2000


class Answer:
    """A paper: an answer is that of a question for the first table, and a number."""

    def __init__(self, question, number):
        self.question = question
        self.number = number

    def __eq__(self, other):
        return isinstance(other, Answer) and self.question == other.question and self.number == other.number


class Effect:
    """A paper: what a vault is in the end, for each table with which it began."""

    def __init__(self, layout, units, places, tear):
        self.layout = layout
        self.units = units
        self.places = places
        self.tear = tear

    def __eq__(self, other):
        return (isinstance(other, Effect) and self.layout == other.layout and self.units == other.units
                and self.places == other.places and self.tear == other.tear)


class SameEnd:
    """A paper: two scripts lead to equal vaults."""

    def __eq__(self, other):
        return isinstance(other, SameEnd)


class OtherEnd:
    """A false paper: a table from which two scripts lead to unlike vaults."""

    def __init__(self, table):
        self.table = table

    def __bool__(self):
        return False

    def __eq__(self, other):
        return isinstance(other, OtherEnd) and self.table == other.table


class SameAnswers:
    """A paper: two scripts have the same answers."""

    def __eq__(self, other):
        return isinstance(other, SameAnswers)


class OtherAnswers:
    """A false paper: a table from which two scripts have other answers."""

    def __init__(self, table):
        self.table = table

    def __bool__(self):
        return False

    def __eq__(self, other):
        return isinstance(other, OtherAnswers) and self.table == other.table


class Steady:
    """A paper: a run stands so many crashes and losses."""

    def __init__(self, runs):
        self.runs = runs

    def __eq__(self, other):
        return isinstance(other, Steady) and self.runs == other.runs


class Shaken:
    """A false paper: a line, a moment of it and a loss behind which recover tells no table."""

    def __init__(self, line, moment, lost):
        self.line = line
        self.moment = moment
        self.lost = lost

    def __bool__(self):
        return False

    def __eq__(self, other):
        return (isinstance(other, Shaken) and self.line == other.line and self.moment == other.moment
                and self.lost == other.lost)


def outline(layout, script):
    """The tuple of the outcomes of a script, an Answer for each answer."""
    check_script(layout, script, "script")
    _, outcomes = run_of(layout, script.deeds)
    return tuple([Answer(one[0], one[1]) if isinstance(one, tuple) else one for one in outcomes])


def effect(layout, script):
    """The Effect of a script."""
    check_script(layout, script, "script")
    course, _ = run_of(layout, script.deeds)
    tear = course.tear
    if tear is not None:
        tear = (str(tear[0]), *tear[1:])
    places = {place: course.amounts[place] for place in layout.shape.places}
    return Effect(course.layout, course.left, places, tear)


def same_end(layout, one, other):
    """A SameEnd of two scripts, or an OtherEnd."""
    check_two(layout, one, other)
    table = table_apart(run_of(layout, one.deeds)[0], run_of(layout, other.deeds)[0])
    return SameEnd() if table is None else OtherEnd(table)


def same_answers(layout, one, other):
    """A SameAnswers of two scripts, or an OtherAnswers."""
    check_two(layout, one, other)
    answers = [answers_in(run_of(layout, script.deeds)[1]) for script in (one, other)]
    table = table_between(layout.shape, answers[0], answers[1])
    return SameAnswers() if table is None else OtherAnswers(table)


def needless_line(layout, script):
    """The index of the first line without which a script has the same end and the same answers, or None."""
    check_script(layout, script, "script")
    deeds = script.deeds
    course, outcomes = run_of(layout, deeds)
    for at in range(len(deeds)):
        other, others = run_of(layout, (*deeds[:at], *deeds[at + 1:]))
        held = table_between(layout.shape, answers_in(outcomes), answers_in(others)) is None
        if held and table_apart(course, other) is None:
            return at
    return None


def steady(layout, script, order, many, journal="none"):
    """A Steady of a run whose puts are cut off, or a Shaken."""
    check_steady(layout, script, order, many, journal)
    puts = puts_of(layout, script, order)
    runs = sum([runs_of(put, order, many, journal) for put in puts])
    if runs > MOST_RUNS:
        raise TooMany("runs", MOST_RUNS)
    storms = {}
    for line, place, here, left in puts:
        case = (str(here), left)
        if case not in storms:
            storms[case] = Storm(here, many, journal, left)
        writes = order.writes(here, place, journal)
        for moment in range(len(writes) + 1):
            lost, _ = storms[case].look(place, writes[:moment])
            if lost is not None:
                return Shaken(line, moment, lost)
    return Steady(runs)


def check_script(layout, script, part):
    """Raise BadLayout, or BadVault unless it is a script of the layout's shape."""
    check_layout(layout)
    if not is_script_of(script, layout.shape):
        raise BadVault(part)


def check_two(layout, one, other):
    """Raise the error of what is no layout, or no script of its shape."""
    check_script(layout, one, "one")
    check_script(layout, other, "other")


def check_steady(layout, script, order, many, journal):
    """Raise the error of what a run is looked at by."""
    check_script(layout, script, "script")
    check_order(order, layout)
    if not is_whole_from(many, 0, MOST_LOST):
        raise BadCount(many)
    check_journal(journal)


def run_of(layout, deeds):
    """The course behind some deeds, and the list of their outcomes."""
    course = Course(layout)
    return course, [outcome(course, deed) for deed in deeds]


def answers_in(outcomes):
    """The list of the answers among some outcomes."""
    return [one for one in outcomes if isinstance(one, tuple)]


def table_apart(course, other):
    """A table from which two courses end unlike, or None."""
    if course.layout != other.layout or course.left != other.left or marks_of(course.tear) != marks_of(other.tear):
        return Table(course.layout.shape)
    return table_between(course.layout.shape, course.answers_left(), other.answers_left())


def marks_of(tear):
    """What a torn vault keeps of a crash; the amount is not kept."""
    return None if tear is None else (tear[0].words, tear[1], tear[3], tear[4])


def table_between(shape, one, other):
    """A table for which two lists of answers are unlike, or None."""
    if len(one) != len(other):
        return Table(shape)
    for (left, number), (right, more) in zip(one, other):
        if number != more:
            return Table(shape)
        places = left ^ right
        if len(places) > 0:
            return Table(shape, {places[0]: 1})
    return None


def puts_of(layout, script, order):
    """The list of the puts that are done: their lines, places, the layouts and the units left ahead of them."""
    course = Course(layout)
    puts = []
    for line, deed in enumerate(script.deeds):
        here, left = course.layout, course.left
        if outcome(course, deed) == "done" and deed[0] == "put":
            puts.append((line, deed[1], here, left))
        if not order.fits(course.layout):
            break
    return puts


def runs_of(put, order, many, journal):
    """How many moments and losses there are of a put."""
    _, place, layout, left = put
    writes = order.writes(layout, place, journal)
    return sum([lots_count(units_at(left, writes[:moment]), many) for moment in range(len(writes) + 1)])
