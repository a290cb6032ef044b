"""Ties: sums of answers, each times an integer, that are 0 for each table."""

from rowvault.spans import vector_of
from rowvault.told import Told
from rowvault.vectors import cleared, cleared_at, in_lowest_terms, lead_of, with_vector


def ties_of(vectors, width):
    """The list of the ties, one for each vector that those ahead of it tell.

    A tie is a dict from the indexes of vectors to integers other than 0. It is above 0 at its vector,
    and has besides only vectors ahead that those ahead of them do not tell.
    """
    rows = {}
    ties = []
    for at, vector in enumerate(vectors):
        marked = {**vector, width + at: 1}
        rest = cleared(marked, rows)
        if lead_of(rest, width) < 0:
            ties.append(in_lowest_terms({column - width: number for column, number in rest.items()}))
        else:
            rows = with_vector(rows, marked, width)
    return ties


def solved_for(ties, indexes):
    """The dict from those of some indexes to a tie that is above 0 there, and 0 at all other ones of them."""
    leads = {}
    rest = list(ties)
    free = []
    for index in indexes:
        held = [tie for tie in rest if index in tie]
        if held == []:
            free.append(index)
            continue
        first = held[0]
        rest = [cleared_at(index, tie, first) if index in tie else tie for tie in rest if tie != first]
        ahead = {at: cleared_at(index, tie, first) if index in tie else tie for at, tie in leads.items()}
        leads = {**ahead, index: first}
    return {at: above(tie, at) for at, tie in leads.items() if not any([index in tie for index in free])}


def above(tie, index):
    """The tie, or its opposite, above 0 at an index."""
    return tie if tie[index] > 0 else {at: -number for at, number in tie.items()}


class Ties:
    """The ties between the answers of some units in order, and the Tolds that they give."""

    def __init__(self, layout, units):
        pairs = list(layout.answers(units))
        self._answer_keys = [key for key, answer in pairs]
        self._ties = ties_of([vector_of(answer) for key, answer in pairs], len(layout.shape))

    def tolds_of(self, units):
        """The dict from those answers of some units that the others tell to Tolds by the others."""
        lost = [at for at, key in enumerate(self._answer_keys) if key[0] in units]
        solved = solved_for(self._ties, lost)
        return {self._answer_keys[at]: self.told_by(solved[at], at) for at in lost if at in solved}

    def told_by(self, tie, index):
        """The Told of an answer that a tie gives."""
        weights = {self._answer_keys[at]: -number for at, number in tie.items() if at != index}
        return Told(tie[index], weights)
