"""Layouts that tell one another."""

from rowvault.asked import bare_part, check_layout
from rowvault.bases import Bases
from rowvault.checks import is_whole_from
from rowvault.errors import BadCount, BadKind, BadLayout, TooMany
from rowvault.layouts import Layout, are_kinds, check_fit
from rowvault.losses import Rebuilder
from rowvault.lots import vectors_for
from rowvault.shapes import MOST_DAYS, MOST_KEYS, MOST_PLACES, Shape
from rowvault.told import Teller

NAMES = ("a", "b", "c", "d", "e", "f")


class Tells:
    """A paper: for each answer of the other layout a Told by the units of the one."""

    def __init__(self, tolds):
        self.tolds = tolds

    def __eq__(self, other):
        return isinstance(other, Tells) and self.tolds == other.tolds


class Silent:
    """A false paper: a unit of the other layout, the index of an answer that is not told, and a Parted."""

    def __init__(self, unit, index, parted):
        self.unit = unit
        self.index = index
        self.parted = parted

    def __bool__(self):
        return False

    def __eq__(self, other):
        return (isinstance(other, Silent) and self.unit == other.unit and self.index == other.index
                and self.parted == other.parted)


class Alike:
    """A paper: how each of two layouts tells the other one."""

    def __init__(self, there, back):
        self.there = there
        self.back = back

    def __eq__(self, other):
        return isinstance(other, Alike) and self.there == other.there and self.back == other.back


class Apart:
    """A false paper: which of two layouts is not told by the other one, and the Silent."""

    def __init__(self, side, silent):
        self.side = side
        self.silent = silent

    def __bool__(self):
        return False

    def __eq__(self, other):
        return isinstance(other, Apart) and self.side == other.side and self.silent == other.silent


class Throughout:
    """A paper: the shapes on each of which some kinds tell other ones."""

    def __init__(self, shapes):
        self.shapes = shapes

    def __eq__(self, other):
        return isinstance(other, Throughout) and self.shapes == other.shapes


class Breaks:
    """A false paper: a shape on which some kinds do not tell other ones, and the Silent."""

    def __init__(self, shape, silent):
        self.shape = shape
        self.silent = silent

    def __bool__(self):
        return False

    def __eq__(self, other):
        return isinstance(other, Breaks) and self.shape == other.shape and self.silent == other.silent


def tells(one, other):
    """A Tells of all answers of the other layout, or a Silent."""
    check_two(one, other)
    teller = Teller(one, one.units, bare_part(one, None))
    tolds = {}
    for (unit, index), question in other.answers():
        paper = teller.paper_on(question)
        if not paper:
            return Silent(unit, index, paper)
        tolds[unit, index] = paper
    return Tells(tolds)


def alike(one, other):
    """An Alike of two layouts, or an Apart."""
    there = tells(one, other)
    if not there:
        return Apart("other", there)
    back = tells(other, one)
    return Alike(there, back) if back else Apart("one", back)


def common(one, other):
    """The span of all questions that both layouts tell."""
    check_two(one, other)
    return one.span_of(one.units) & other.span_of(other.units)


def needless(layout):
    """The tuple of the units all of whose answers are told by all other units."""
    check_layout(layout)
    rebuilder = Rebuilder(layout, layout.units)
    return tuple([unit for unit in layout.units if rebuilder.rebuilds([[unit]])])


def slim(layout):
    """The tuple of the units that are left when each that the others tell is left out, the last one first."""
    check_layout(layout)
    none = bare_part(layout, None)
    bases = Bases([vectors_for(layout, unit, none) for unit in layout.units], None, len(layout.shape))
    near = bases.near(None)
    held = [True for _ in layout.units]
    for at in range(len(held) - 1, -1, -1):
        fewer = [*held[:at], False, *held[at + 1:]]
        is_told, _ = bases.look(None, near, fewer)
        if is_told:
            held = fewer
    return tuple([unit for unit, kept in zip(layout.units, held) if kept])


def tells_always(kinds, others, keys, days):
    """A Throughout of all shapes with so many keys and days, or a Breaks."""
    check_both_kinds(kinds, others)
    check_extent(keys, days)
    shapes = [Shape(NAMES[:count], many) for count in range(1, keys + 1) for many in range(1, days + 1)]
    for shape in shapes:
        check_fit(shape, kinds)
        check_fit(shape, others)
    for shape in shapes:
        paper = tells(Layout(shape, *kinds), Layout(shape, *others))
        if not paper:
            return Breaks(shape, paper)
    return Throughout(tuple(shapes))


def check_two(one, other):
    """Raise BadLayout unless both are layouts of one shape."""
    if not isinstance(one, Layout):
        raise BadLayout("one")
    if not isinstance(other, Layout) or other.shape != one.shape:
        raise BadLayout("other")


def check_both_kinds(kinds, others):
    """Raise BadKind unless layouts can be made of both."""
    if not are_kinds(kinds):
        raise BadKind("kinds")
    if not are_kinds(others):
        raise BadKind("others")


def check_extent(keys, days):
    """Raise the error of numbers of keys and days that no shape has."""
    if not is_whole_from(keys, 1, MOST_KEYS):
        raise BadCount(keys)
    if not is_whole_from(days, 1, MOST_DAYS):
        raise BadCount(days)
    if keys * days > MOST_PLACES:
        raise TooMany("places", MOST_PLACES)
