"""All errors of the package: wrong input, refusals, and what is not there."""


class VaultError(ValueError):
    """The base of all errors of the package."""

    def refusal(self):
        """What is told of the error in the place of an answer."""
        return f"refused {self.__class__.__name__}"


class BadInput(VaultError):
    """Something that was passed is wrong."""


class Refused(VaultError):
    """What was asked cannot be done."""


class NoAnswer(VaultError):
    """What was asked for is not there."""


class BadShape(BadInput):
    """A shape, or what a shape is made of, is wrong."""

    def __init__(self, part):
        self.part = part


class BadTable(BadInput):
    """A table, or what a table is made of, is wrong."""

    def __init__(self, part):
        self.part = part


class BadPart(BadInput):
    """A part, or what a part is made of, is wrong."""

    def __init__(self, part):
        self.part = part


class BadQuestion(BadInput):
    """A question, or what a question is made of, is wrong."""

    def __init__(self, part):
        self.part = part


class BadSpan(BadInput):
    """A span, or what a span is made of, is wrong."""

    def __init__(self, part):
        self.part = part


class BadKind(BadInput):
    """A kind of units, or what a kind is made of, is wrong."""

    def __init__(self, part):
        self.part = part


class BadLayout(BadInput):
    """A layout, or what a layout is made of, is wrong."""

    def __init__(self, part):
        self.part = part


class BadRule(BadInput):
    """A price, a journal or a paper to work with is wrong."""

    def __init__(self, part):
        self.part = part


class BadPlan(BadInput):
    """A plan, or what a plan is made of, is wrong."""

    def __init__(self, part):
        self.part = part


class BadPoly(BadInput):
    """A poly, or what a poly is made of, is wrong."""

    def __init__(self, part):
        self.part = part


class BadSites(BadInput):
    """Sites, or what they are made of, are wrong."""

    def __init__(self, part):
        self.part = part


class BadOrder(BadInput):
    """An order of writes, or what it is made of, is wrong."""

    def __init__(self, part):
        self.part = part


class BadVault(BadInput):
    """A vault, a script, or what they are made of, is wrong."""

    def __init__(self, part):
        self.part = part


class BadBook(BadInput):
    """A book, or what a book is made of, is wrong."""

    def __init__(self, part):
        self.part = part


class BadPlace(BadInput):
    """The value is no place."""

    def __init__(self, value):
        self.value = value


class BadAmount(BadInput):
    """The value is no amount."""

    def __init__(self, value):
        self.value = value


class BadUnit(BadInput):
    """The value is no unit."""

    def __init__(self, value):
        self.value = value


class BadCount(BadInput):
    """The value is no number within the bounds."""

    def __init__(self, value):
        self.value = value


class BadName(BadInput):
    """The value is no name."""

    def __init__(self, value):
        self.value = value


class BadText(BadInput):
    """A text whose line has a word that cannot stand, or lacks one."""

    def __init__(self, line, word):
        self.line = line
        self.word = word


class BadLine(BadInput):
    """A line for a desk with a word that cannot stand, or without one."""

    def __init__(self, word):
        self.word = word


class TooMany(Refused):
    """There are more than the most that are let."""

    def __init__(self, what, most):
        self.what = what
        self.most = most


class Untold(Refused):
    """What is left does not tell it; the paper shows why."""

    def __init__(self, paper):
        self.paper = paper


class Gone(Refused):
    """The unit is lost."""

    def __init__(self, unit):
        self.unit = unit


class Torn(Refused):
    """The vault is torn by a crash."""


class Taken(Refused):
    """The name is taken already."""

    def __init__(self, name):
        self.name = name


class NoUnit(NoAnswer):
    """There is no such unit."""

    def __init__(self, unit):
        self.unit = unit


class NoName(NoAnswer):
    """There is no such name."""

    def __init__(self, name):
        self.name = name


class NoDeed(NoAnswer):
    """There is no deed to take back or to go on with."""
