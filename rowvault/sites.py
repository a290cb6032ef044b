"""Sites: units that are kept, lost and read together."""

from rowvault.asked import bare_part, check_layout, check_question
from rowvault.checks import is_whole_from
from rowvault.errors import BadCount, BadSites, BadUnit
from rowvault.losses import Rebuilder
from rowvault.lots import Lots, choices, vectors_for
from rowvault.readings import without
from rowvault.searches import matter_at_most
from rowvault.spans import vector_of
from rowvault.told import Teller
from rowvault.units import take_some_units, units_text
from rowvault.ways import check_lots, check_spread, first_way, lots_by
from rowvault.words import words_of


class Sites:
    """The units of a layout, each at one of some sites."""

    def __init__(self, layout, *lots):
        check_layout(layout)
        check_lots(layout, lots)
        self.layout = layout
        self.lots = tuple([tuple([unit for unit in layout.units if unit in lot]) for lot in lots])

    def site_of(self, unit):
        """The number of the site of a unit."""
        if unit not in self.layout:
            raise BadUnit(unit)
        return [number for number, lot in enumerate(self.lots) if unit in lot][0]

    def units_at(self, numbers):
        """The tuple of the units at some sites."""
        some = told_numbers(self, numbers)
        return tuple([unit for unit in self.layout.units if self.site_of(unit) in some])

    def units_off(self, numbers):
        """The tuple of the units at all other sites."""
        some = told_numbers(self, numbers)
        return tuple([unit for unit in self.layout.units if self.site_of(unit) not in some])

    def __len__(self):
        return len(self.lots)

    def __iter__(self):
        return iter(self.lots)

    def __getitem__(self, at):
        if not is_whole_from(at, 0, len(self.lots) - 1):
            raise BadCount(at)
        return self.lots[at]

    def __eq__(self, other):
        return isinstance(other, Sites) and self.layout == other.layout and self.lots == other.lots

    def __str__(self):
        return " / ".join([units_text(lot) for lot in self.lots])

    @classmethod
    def read(cls, text, layout):
        """The sites with this text."""
        check_layout(layout)
        lot, words = take_some_units(words_of(text), ())
        lots = [lot]
        while words.peek() == "/":
            lot, words = take_some_units(words.behind(), [unit for ahead in lots for unit in ahead])
            lots.append(lot)
        words.end()
        return cls(layout, *lots)


class AtSites:
    """A paper: sites that are just enough, a Told by them, and a Parted without each one of them."""

    def __init__(self, numbers, told, parteds):
        self.numbers = numbers
        self.told = told
        self.parteds = parteds

    def __eq__(self, other):
        return (isinstance(other, AtSites) and self.numbers == other.numbers and self.told == other.told
                and self.parteds == other.parteds)


class TooFew:
    """A false paper: a Parted of the units at the sites."""

    def __init__(self, parted):
        self.parted = parted

    def __bool__(self):
        return False

    def __eq__(self, other):
        return isinstance(other, TooFew) and self.parted == other.parted


class NotAsked:
    """A false paper: a site without which the others are enough, and a Told by these."""

    def __init__(self, number, told):
        self.number = number
        self.told = told

    def __bool__(self):
        return False

    def __eq__(self, other):
        return isinstance(other, NotAsked) and self.number == other.number and self.told == other.told


class Bears:
    """A paper: a Rebuilt for each loss of so many sites."""

    def __init__(self, rebuilts):
        self.rebuilts = rebuilts

    def __eq__(self, other):
        return isinstance(other, Bears) and self.rebuilts == other.rebuilts


class Fails:
    """A false paper: sites whose loss is not rebuilt, and the Lacking."""

    def __init__(self, numbers, lacking):
        self.numbers = numbers
        self.lacking = lacking

    def __bool__(self):
        return False

    def __eq__(self, other):
        return isinstance(other, Fails) and self.numbers == other.numbers and self.lacking == other.lacking


class Bearing:
    """A paper: the greatest number of sites any of which can be lost, and why it is no greater."""

    def __init__(self, many, borne, numbers, lacking):
        self.many = many
        self.borne = borne
        self.numbers = numbers
        self.lacking = lacking

    def __eq__(self, other):
        return (isinstance(other, Bearing) and self.many == other.many and self.borne == other.borne
                and self.numbers == other.numbers and self.lacking == other.lacking)


class Spread:
    """A paper: sites at which the units are kept, and the Bears of them."""

    def __init__(self, sites, borne):
        self.sites = sites
        self.borne = borne

    def __eq__(self, other):
        return isinstance(other, Spread) and self.sites == other.sites and self.borne == other.borne


class NoSpread:
    """A false paper: lots with Lackings, one of which is lost whatever way the units are kept."""

    def __init__(self, weak):
        self.weak = weak

    def __bool__(self):
        return False

    def __eq__(self, other):
        return isinstance(other, NoSpread) and self.weak == other.weak


def site_readings(sites, question):
    """Yield the tuples of sites that are enough, but not without any one of them."""
    lots = site_lots(sites, question)
    for mask in lots.least_enough(lots.full()):
        yield lots.indexes_of(mask)


def site_partings(sites, question):
    """Yield the tuples of sites without which the others are not enough, but are with any one of them."""
    lots = site_lots(sites, question)
    for mask in lots.least_parting(lots.full()):
        yield lots.indexes_of(mask)


def at_sites(sites, numbers, question):
    """An AtSites of these sites, a TooFew or a NotAsked."""
    some = asked_sites(sites, numbers, question)
    paper = paper_at(sites, some, question)
    if not paper:
        return TooFew(paper)
    parteds = {}
    for number in some:
        other = paper_at(sites, without(some, number), question)
        if other:
            return NotAsked(number, other)
        parteds[number] = other
    return AtSites(tuple(some), paper, parteds)


def bears(sites, many):
    """A Bears of all losses of so many sites, or a Fails."""
    check_sites(sites)
    check_many(sites, many)
    return bears_by(Rebuilder(sites.layout, sites.layout.units), sites, many)


def bearing(sites):
    """The Bearing of the sites."""
    check_sites(sites)
    rebuilder = Rebuilder(sites.layout, sites.layout.units)
    many = 0
    paper = bears_by(rebuilder, sites, many)
    while True:
        more = bears_by(rebuilder, sites, many + 1)
        if not more:
            return Bearing(many, paper, more.numbers, more.lacking)
        paper = more
        many = many + 1


def weak_lots(layout):
    """Yield the lots whose loss is not rebuilt, but is without any one of their units."""
    check_layout(layout)
    none = bare_part(layout, None)
    units = matter_at_most(layout, layout.units, none)
    groups = [vectors_for(layout, unit, none) for unit in units]
    lots = Lots(groups, None, len(layout.shape))
    for mask in lots.least_parting(lots.full()):
        yield tuple([units[index] for index in lots.indexes_of(mask)])


def spread(layout, many, lost):
    """A Spread of the units at so many sites, of which any lost ones can be lost, or a NoSpread."""
    check_spread(layout, many, lost)
    rebuilder = Rebuilder(layout, layout.units)
    weak = list(weak_lots(layout))
    way = first_way(layout.units, many, lost, weak)
    if way is None:
        return NoSpread({lot: rebuilder.loss_paper(lot) for lot in weak})
    lots = lots_by(way, layout.units, many)
    sites = Sites(layout, *lots)
    return Spread(sites, bears_by(rebuilder, sites, lost))


def check_sites(sites):
    """Raise BadSites unless it is sites."""
    if not isinstance(sites, Sites):
        raise BadSites("sites")


def check_many(sites, many):
    """Raise BadCount unless it is a number of sites."""
    if not is_whole_from(many, 0, len(sites.lots)):
        raise BadCount(many)


def told_numbers(sites, numbers):
    """The list of the sites that are told, ascending, each once."""
    if not isinstance(numbers, (list, tuple)):
        raise BadSites("numbers")
    for number in numbers:
        if not is_whole_from(number, 0, len(sites.lots) - 1):
            raise BadCount(number)
    return [number for number in range(len(sites.lots)) if number in numbers]


def asked_sites(sites, numbers, question):
    """The list of the sites that are told, behind the errors of all three."""
    check_sites(sites)
    check_question(sites.layout, question)
    return told_numbers(sites, numbers)


def site_lots(sites, question):
    """Which lots of sites tell a question."""
    check_sites(sites)
    check_question(sites.layout, question)
    none = bare_part(sites.layout, None)
    groups = [[vector for unit in lot for vector in vectors_for(sites.layout, unit, none)] for lot in sites.lots]
    return Lots(groups, [vector_of(question)], len(sites.layout.shape))


def paper_at(sites, numbers, question):
    """A Told of the question by the units at some sites, or a Parted."""
    return Teller(sites.layout, sites.units_at(numbers), bare_part(sites.layout, None)).paper_on(question)


def bears_by(rebuilder, sites, many):
    """The Bears of all losses of so many sites, or a Fails."""
    rebuilts = {}
    for numbers in choices(len(sites.lots), many):
        paper = rebuilder.loss_paper(sites.units_at(numbers))
        if not paper:
            return Fails(numbers, paper)
        rebuilts[numbers] = paper
    return Bears(rebuilts)
