"""Crashes: what the units that are left answer when a put is cut off.

What is unknown are the amounts ahead of the put and the change; so a vector has a column for each
place, and one behind them for the change.
"""

from rowvault.errors import BadCount, BadPlace, BadRule
from rowvault.checks import is_whole_from
from rowvault.spans import vector_of
from rowvault.weighers import Weigher

JOURNALS = ("none", "old", "new", "change", "both")
JOURNAL = "journal"


def is_journal(value):
    """Whether any value is one of the words of journals."""
    return isinstance(value, str) and value in JOURNALS


def check_journal(value):
    """Raise BadRule unless it is one of the words of journals."""
    if not is_journal(value):
        raise BadRule("journal")


def check_place(layout, place):
    """Raise BadPlace unless it is a place of the layout's shape."""
    if place not in layout.shape:
        raise BadPlace(place)


def check_moment(moment, writes):
    """Raise BadCount unless it is a moment of these writes."""
    if not is_whole_from(moment, 0, len(writes)):
        raise BadCount(moment)


def journal_answers(journal, old, new):
    """The tuple of what a journal tells of the amount ahead and the amount behind."""
    if journal == "both":
        return (old, new)
    if journal == "change":
        return (new - old,)
    return (old,) if journal == "old" else (new,)


def old_vector(layout, place):
    """The vector of the amount of a place ahead of the put."""
    return {layout.shape.indexes[place]: 1}


def new_vector(layout, place):
    """The vector of the amount of the put's place behind it."""
    return {layout.shape.indexes[place]: 1, len(layout.shape.places): 1}


def change_vector(layout):
    """The vector of the change."""
    return {len(layout.shape.places): 1}


def journal_vectors(layout, place, journal):
    """The list of the vectors of what a journal tells."""
    if journal == "both":
        return [old_vector(layout, place), new_vector(layout, place)]
    if journal == "change":
        return [change_vector(layout)]
    return [old_vector(layout, place) if journal == "old" else new_vector(layout, place)]


def unit_vectors(layout, place, unit, is_new):
    """The list of the vectors of what a unit answers, behind its write or ahead of it."""
    vectors = []
    for question in layout[unit]:
        weight = question[place]
        vector = vector_of(question)
        vectors.append({**vector, len(layout.shape.places): weight} if is_new and weight != 0 else vector)
    return vectors


def vectors_behind(layout, place, journal, written):
    """The dict from all units, a written journal ahead, to the lists of their vectors, some being written."""
    vectors = {}
    if JOURNAL in written:
        vectors[JOURNAL] = journal_vectors(layout, place, journal)
    for unit in layout.units:
        vectors[unit] = unit_vectors(layout, place, unit, unit in written)
    return vectors


class Wreck:
    """What some units tell behind a crash: of the amounts ahead of the put, and of the change."""

    def __init__(self, layout, place, vectors):
        self._layout = layout
        self._place = place
        self._answer_keys = [(unit, index) for unit, rows in vectors.items() for index in range(len(rows))]
        self._weigher = Weigher([row for rows in vectors.values() for row in rows], len(layout.shape.places) + 1)

    def worked_out(self, vector, answers):
        """What the units with these answers tell of a vector, or None."""
        weighed = self._weigher.weighed(vector)
        if weighed is None:
            return None
        bottom, weights = weighed
        keys = self._answer_keys
        return sum([weight * answers[keys[at][0]][keys[at][1]] for at, weight in weights.items()]) // bottom

    def can_tell(self, vector):
        """Whether the units tell a vector."""
        return self._weigher.can_tell(vector)

    def tells_all(self):
        """Whether the units tell all other amounts, and at the place the old or the new one."""
        others = [old_vector(self._layout, place) for place in self._layout.shape.places if place != self._place]
        if not all([self.can_tell(vector) for vector in others]):
            return False
        old = old_vector(self._layout, self._place)
        return self.can_tell(old) or self.can_tell(new_vector(self._layout, self._place))

    def direction_for(self, vector):
        """A direction, a dict from columns, along which the units stand still and the vector does not."""
        return self._weigher.direction_for(vector)
