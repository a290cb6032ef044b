"""What vaults hold: answers of the units that are left, and tables under names."""

from rowvault.asked import bare_part
from rowvault.checks import is_name
from rowvault.crashes import JOURNAL
from rowvault.images import are_answers_of
from rowvault.tables import is_table_of
from rowvault.told import Teller


def are_some_answers(layout, value):
    """Whether any value is a dict from units to as many integers as they have answers."""
    if not isinstance(value, dict):
        return False
    return all([unit in layout and are_answers_of(layout, unit, value[unit]) for unit in value])


def teller_of(layout, held):
    """What the units of a layout that are held tell."""
    return Teller(layout, [unit for unit in layout.units if unit in held], bare_part(layout, None))


def are_marks(layout, value):
    """Whether any value is a dict from names to tables of the layout's shape."""
    if not isinstance(value, dict) or not all([is_name(name) for name in value]):
        return False
    return all([is_table_of(table, layout.shape) for table in value.values()])


def changed(layout, held, units, place, change):
    """The answers behind a change of the amount of a place that is written to some of the units."""
    more = {}
    for unit, answers in held.items():
        if unit in units and unit != JOURNAL:
            more[unit] = tuple([answer + change * one[place] for one, answer in zip(layout[unit], answers)])
        else:
            more[unit] = answers
    return more
