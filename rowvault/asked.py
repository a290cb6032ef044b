"""The errors of parameters that many functions have, in the order in which they are raised."""

from rowvault.errors import BadLayout, BadPart, BadQuestion, BadTable
from rowvault.layouts import Layout, told_units
from rowvault.parts import Part, is_part_of
from rowvault.questions import is_question_of
from rowvault.tables import is_table_of


def check_layout(layout):
    """Raise BadLayout unless it is a layout."""
    if not isinstance(layout, Layout):
        raise BadLayout("layout")


def check_question(layout, question):
    """Raise BadQuestion unless it is a question of the layout's shape."""
    if not is_question_of(question, layout.shape):
        raise BadQuestion("question")


def check_table(layout, table):
    """Raise BadTable unless it is a table of the layout's shape."""
    if not is_table_of(table, layout.shape):
        raise BadTable("table")


def bare_part(layout, bare):
    """The part of the bare places; None stands for none."""
    if bare is None:
        return Part(layout.shape)
    if not is_part_of(bare, layout.shape):
        raise BadPart("bare")
    return bare


def asked_of(layout, units, question, bare):
    """The units in order, each once, and the bare part, behind the errors of all four."""
    check_layout(layout)
    some = told_units(layout, units)
    check_question(layout, question)
    return some, bare_part(layout, bare)
