"""Whether papers about layouts that tell one another are right; nothing is searched."""

from rowvault.alike import Alike, Apart, Breaks, Silent, Tells, check_both_kinds, check_two
from rowvault.asked import check_layout
from rowvault.checks import is_whole_from
from rowvault.layouts import Layout, count_on
from rowvault.look_readings import is_lot_of
from rowvault.look_told import is_answer_key, shows_parted, shows_told
from rowvault.losses import Rebuilder
from rowvault.shapes import Shape


def shows_tells(one, other, value):
    """Whether any value is a right Tells of the other layout by the one, or a right Silent."""
    check_two(one, other)
    return is_tells(one, other, value) or is_silent(one, other, value)


def shows_alike(one, other, value):
    """Whether any value is a right Alike of two layouts, or a right Apart."""
    check_two(one, other)
    if isinstance(value, Alike):
        return is_tells(one, other, value.there) and is_tells(other, one, value.back)
    if not isinstance(value, Apart) or value.side not in ("one", "other"):
        return False
    return is_silent(one, other, value.silent) if value.side == "other" else is_silent(other, one, value.silent)


def shows_breaks(kinds, others, value):
    """Whether any value is a right Breaks of any shape on which both kinds can be laid out."""
    check_both_kinds(kinds, others)
    if not isinstance(value, Breaks) or not isinstance(value.shape, Shape):
        return False
    if count_on(value.shape, kinds) > Layout.MOST or count_on(value.shape, others) > Layout.MOST:
        return False
    return is_silent(Layout(value.shape, *kinds), Layout(value.shape, *others), value.silent)


def shows_slim(layout, value):
    """Whether any value is a tuple of units that tell the layout, but not without any one of them."""
    check_layout(layout)
    if not is_lot_of(value, layout.units):
        return False
    gone = [unit for unit in layout.units if unit not in value]
    rebuilder = Rebuilder(layout, layout.units)
    if not rebuilder.rebuilds([gone]):
        return False
    return not any([rebuilder.rebuilds([[*gone, unit]]) for unit in value])


def is_tells(one, other, value):
    """Whether any value is a right Tells of the other layout by the one."""
    if not isinstance(value, Tells) or not isinstance(value.tolds, dict):
        return False
    if len(value.tolds) != sum([len(other[unit]) for unit in other.units]):
        return False
    return all([is_told_key(one, other, key, paper) for key, paper in value.tolds.items()])


def is_told_key(one, other, key, paper):
    """Whether any key is that of an answer of the other layout, and any paper a right Told of it by the one."""
    if not is_answer_key(other, other.units, key):
        return False
    unit, index = key
    return shows_told(one, one.units, other[unit][index], paper)


def is_silent(one, other, value):
    """Whether any value is a right Silent of the other layout by the one."""
    if not isinstance(value, Silent) or value.unit not in other.units:
        return False
    if not is_whole_from(value.index, 0, len(other[value.unit]) - 1):
        return False
    return shows_parted(one, one.units, other[value.unit][value.index], value.parted)
