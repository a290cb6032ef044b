"""Ties: sums of answers, each times an integer, that are 0 for each table."""

from math import gcd

from rowvault.spans import vector_of
from rowvault.told import Told
from rowvault.vectors import cleared, cleared_at, in_lowest_terms, lead_of, with_vector


def ties_of(vectors, width):
    """The list of the ties, one for each vector that those ahead of it tell.

    A tie is a dict from the indexes of vectors to integers other than 0. It is above 0 at its vector,
    and has besides only vectors ahead that those ahead of them do not tell.
    """
    rows = {}
    ties = []
    for at, vector in enumerate(vectors):
        marked = {**vector, width + at: 1}
        rest = cleared(marked, rows)
        if lead_of(rest, width) < 0:
            ties.append(in_lowest_terms({column - width: number for column, number in rest.items()}))
        else:
            rows = with_vector(rows, marked, width)
    return ties


def split_at(ties, indexes):
    """The ties made 0 at some indexes as far as can be: a pair of a dict and a list.

    The dict tells by its index each tie that is left there, and is 0 at the other indexes of the dict.
    The list has the ties that are 0 at all the indexes.
    """
    leads = {}
    rest = list(ties)
    for index in indexes:
        held = [tie for tie in rest if index in tie]
        if held == []:
            continue
        first = held[0]
        rest = [cleared_at(index, tie, first) if index in tie else tie for tie in rest if tie != first]
        ahead = {at: cleared_at(index, tie, first) if index in tie else tie for at, tie in leads.items()}
        leads = {**ahead, index: first}
    return leads, rest


def solved_for(ties, indexes):
    """The dict from those of some indexes to a tie that is above 0 there, and 0 at all other ones of them."""
    leads, _ = split_at(ties, indexes)
    free = [index for index in indexes if index not in leads]
    return {at: above(tie, at) for at, tie in leads.items() if not any([index in tie for index in free])}


def above(tie, index):
    """The tie, or its opposite, above 0 at an index."""
    return tie if tie[index] > 0 else {at: -number for at, number in tie.items()}


def sum_by(tie, values):
    """The sum of the values, each times the tie's integer."""
    return sum([number * values[at] for at, number in tie.items()])


class Ties:
    """The ties between the answers of some units in order, and the Tolds that they give."""

    def __init__(self, layout, units):
        pairs = list(layout.answers(units))
        self._answer_keys = [key for key, answer in pairs]
        self._ties = ties_of([vector_of(answer) for key, answer in pairs], len(layout.shape))

    def all_weights(self):
        """The list of the ties, as dicts from pairs of a unit and an index."""
        return [self.weights_of(tie) for tie in self._ties]

    def weights_of(self, tie):
        """A tie as a dict from pairs of a unit and an index, in order."""
        return {key: tie[at] for at, key in enumerate(self._answer_keys) if at in tie}

    def indexes_of(self, units):
        """The indexes of the answers of some units."""
        return [at for at, key in enumerate(self._answer_keys) if key[0] in units]

    def values_of(self, answers):
        """The list of the answers that a dict from units tells."""
        return [answers[unit][index] for unit, index in self._answer_keys]

    def tolds_of(self, units):
        """The dict from those answers of some units that the others tell to Tolds by the others."""
        lost = self.indexes_of(units)
        solved = solved_for(self._ties, lost)
        return {self._answer_keys[at]: self.told_by(solved[at], at) for at in lost if at in solved}

    def told_by(self, tie, index):
        """The Told of an answer that a tie gives."""
        weights = {self._answer_keys[at]: -number for at, number in tie.items() if at != index}
        return Told(tie[index], weights)

    def broken_by(self, units, values):
        """The weights of a tie between the answers of the other units that the values break, or None."""
        _, rest = split_at(self._ties, self.indexes_of(units))
        for tie in rest:
            if sum_by(tie, values) != 0:
                return self.weights_of(tie)
        return None

    def fixed_by(self, units, values):
        """The list of all values, pairs of a top and a bottom, those of some units being worked out from the others."""
        solved = solved_for(self._ties, self.indexes_of(units))
        return [fixed_at(solved, values, at) for at in range(len(values))]


def fixed_at(solved, values, index):
    """The value at an index, a pair in lowest terms, as a tie that is solved for it tells."""
    if index not in solved:
        return values[index], 1
    tie = solved[index]
    top = tie[index] * values[index] - sum_by(tie, values)
    common = gcd(top, tie[index])
    return top // common, tie[index] // common
