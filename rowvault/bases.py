"""Bases: which vectors of some groups tell a wanted one, looked up in a table that is kept from look to look.

The table has a row for each vector of a basis, its lead, and a column for each vector: each vector is
the sum of the leads, each times what its row has in the vector's column over what it has in its own.
So a wanted vector is told by the leads in whose rows it is not 0; and along what each row tells all
vectors stand still that are 0 in it.
"""

from rowvault.vectors import cleared_at, rows_of


class Bases:
    """What groups of vectors tell of wanted vectors, which stand in the columns behind them."""

    def __init__(self, groups, wanted, width):
        self._group_by = [at for at, group in enumerate(groups) for _ in group]
        vectors = [vector for group in groups for vector in group]
        if wanted is not None:
            vectors = [*vectors, *wanted]
        table = [{at: vector[place] for at, vector in enumerate(vectors) if place in vector} for place in range(width)]
        self._table = rows_of(table, len(vectors))
        self._behind = len(vectors)

    def wanted_columns(self):
        """The list of the columns of the wanted vectors."""
        return list(range(len(self._group_by), self._behind))

    def near(self, column):
        """The list of the columns that hang together with a wanted one; no other ones can play a part for it.

        None stands for all that is told, for which all play a part.
        """
        if column is None:
            return list(range(len(self._group_by)))
        rest = list(self._table.values())
        found = {column: True}
        grown = True
        while grown:
            touching = [row for row in rest if any([one in found for one in row])]
            rest = [row for row in rest if not any([one in found for one in row])]
            for row in touching:
                found = {**found, **{one: True for one in row if one < len(self._group_by)}}
            grown = touching != []
        return [one for one in found if one != column]

    def look(self, column, near, held):
        """What some groups tell of a wanted vector, or of all; held says of each group whether it is one of them.

        A pair: True and groups, all held, that tell it; or False and groups, none held, without
        which it is not told.
        """
        self.settle(near, held)
        leads = [lead for lead, row in self._table.items() if column is None or column in row]
        others = [lead for lead in leads if not self.is_held(lead, held)]
        if others == []:
            return True, self.groups_of(leads)
        best = self.groups_of(self._table[others[0]])
        for lead in others[1:]:
            some = self.groups_of(self._table[lead])
            if len(some) < len(best):
                best = some
        return False, best

    def weights_of(self, column, held):
        """How a wanted vector is told by the held groups, which are settled, or None.

        A dict from the columns of vectors to pairs of a top and a bottom: so many times each of them.
        """
        weights = {}
        for lead, row in self._table.items():
            if column in row:
                if not self.is_held(lead, held):
                    return None
                weights[lead] = (row[column], row[lead])
        return weights

    def is_held(self, column, held):
        """Whether the vector of a column is one of the groups held."""
        return column < len(self._group_by) and held[self._group_by[column]]

    def groups_of(self, columns):
        """The list of the groups of the vectors of some columns."""
        return list({self._group_by[at]: True for at in columns if at < len(self._group_by)})

    def settle(self, near, held):
        """Let as many held vectors as can be lead; then the rows of all other leads are 0 in all held ones."""
        for lead in [at for at in near if at in self._table and not held[self._group_by[at]]]:
            columns = [at for at in self._table[lead] if self.is_held(at, held)]
            if columns != []:
                self._table = exchanged(self._table, lead, columns[0])


def exchanged(table, lead, column):
    """The table in which a column leads in the place of another one, in whose row it is not 0."""
    own = table[lead]
    if own[column] < 0:
        own = {at: -number for at, number in own.items()}
    more = {}
    for at, row in table.items():
        if at != lead:
            more[at] = cleared_at(column, row, own) if column in row else row
    more[column] = own
    return more
