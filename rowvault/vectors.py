"""Vectors of integers: dicts from columns, which are integers, to integers other than 0.

Rows are a dict from their leading columns to vectors. Each row is above 0 at its leading column,
which is its first one; all other rows are 0 there. Only columns below a width can lead; those from
the width on say how a row was made, and are carried along.
"""

from math import gcd, lcm


def in_lowest_terms(vector):
    """The vector divided by the greatest common divisor of its numbers."""
    common = 0
    for number in vector.values():
        common = gcd(common, number)
        if common == 1:
            return vector
    return {column: number // common for column, number in vector.items()}


def cleared_at(column, vector, row):
    """A multiple of the vector, above 0 times, and one of the row that make 0 at a column together."""
    common = gcd(vector[column], row[column])
    times, less = row[column] // common, vector[column] // common
    total = dict(vector)
    if times != 1:
        for at in vector:
            total[at] = vector[at] * times
    for at, number in row.items():
        rest = total.get(at, 0) - number * less
        if rest != 0:
            total[at] = rest
        else:
            # Something stood there, as the row is nowhere 0.
            del total[at]
    return in_lowest_terms(total)


def cleared(vector, rows):
    """The vector made 0 at all leading columns; what is left of it is no sum of the rows."""
    rest = vector
    for lead, row in rows.items():
        if lead in rest:
            rest = cleared_at(lead, rest, row)
    return rest


def lead_of(vector, width):
    """The first column below a width at which a vector is not 0, or -1."""
    return min([int(column) for column in vector if column < width], default=-1)


def with_vector(rows, vector, width):
    """The rows and what a further vector adds to them."""
    rest = cleared(vector, rows)
    lead = lead_of(rest, width)
    if lead < 0:
        return rows
    last = rest if rest[lead] > 0 else {column: -number for column, number in rest.items()}
    more = {}
    for at, row in rows.items():
        more[at] = cleared_at(lead, row, last) if lead in row else row
    more[lead] = last
    return more


def rows_of(vectors, width):
    """The rows of some vectors, by their leading columns."""
    rows = {}
    for vector in vectors:
        rows = with_vector(rows, vector, width)
    return {lead: rows[lead] for lead in sorted([int(lead) for lead in rows])}


def below(vector, width):
    """The vector at the columns below a width alone, in lowest terms."""
    return in_lowest_terms({column: number for column, number in vector.items() if column < width})


def directions_of(rows, width):
    """The least vectors to which all rows are 0, one for each column below a width that leads none."""
    return [direction_at(column, rows) for column in range(width) if column not in rows]


def direction_at(free, rows):
    """The direction that is above 0 at a column that leads no row."""
    held = [(lead, row) for lead, row in rows.items() if free in row]
    least = 1
    for lead, row in held:
        least = lcm(least, row[lead] // gcd(row[lead], row[free]))
    direction = {free: least}
    for lead, row in held:
        direction[lead] = -(row[free] * least // row[lead])
    return direction
