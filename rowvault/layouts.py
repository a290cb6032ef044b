"""Layouts: kinds of units on a shape, and what all these units answer."""

from rowvault.errors import BadKind, BadLayout, BadPlace, BadShape, BadText, BadUnit, TooMany
from rowvault.kinds import KIND_WORDS, Blocks, Kind, Stripes, take_kind
from rowvault.shapes import Shape, take_shape
from rowvault.spans import Span
from rowvault.words import words_of

# The words of the kinds' units, in order.
WORDS = ("block", "page", "cell", "bucket", "parity")


class Layout:
    """At most one kind of each class, on a shape."""

    MOST = 60

    def __init__(self, shape, *kinds):
        if not isinstance(shape, Shape):
            raise BadShape("shape")
        check_kinds(kinds)
        check_fit(shape, kinds)
        pairs = pairs_of(shape, ordered(kinds))
        self.shape = shape
        self._kinds = tuple(ordered(kinds))
        self.units = tuple([unit for unit, answers in pairs])
        self._answers = {unit: answers for unit, answers in pairs}

    @property
    def kinds(self):
        """The tuple of the kinds, in the order of their units."""
        return self._kinds

    def touched_by(self, place):
        """The tuple of the units with an answer that hangs on the amount of a place."""
        if place not in self.shape:
            raise BadPlace(place)
        return tuple([unit for unit in self.units if any([one[place] != 0 for one in self._answers[unit]])])

    def answers(self, units=None):
        """Yield the pairs of a pair (unit, index) and this answer, of some units or of all."""
        some = self.units if units is None else told_units(self, units)
        for unit in some:
            for index, question in enumerate(self._answers[unit]):
                yield (unit, index), question

    def span_of(self, units):
        """The span of all answers of some units."""
        questions = [question for unit in told_units(self, units) for question in self._answers[unit]]
        return Span(self.shape, *questions)

    def __len__(self):
        return len(self.units)

    def __iter__(self):
        return iter(self.units)

    def __contains__(self, x):
        return isinstance(x, str) and x in self._answers

    def __getitem__(self, at):
        if at not in self:
            raise BadUnit(at)
        return self._answers[at]

    def __add__(self, other):
        if not isinstance(other, Kind):
            raise BadKind("other")
        kinds = [kind for kind in self._kinds if kind.WORD != other.WORD]
        return Layout(self.shape, other, *kinds)

    def __sub__(self, other):
        if other not in [kind.WORD for kind in self._kinds]:
            raise BadKind("word")
        kinds = [kind for kind in self._kinds if kind.WORD != other]
        return Layout(self.shape, *kinds)

    def __le__(self, other):
        if not isinstance(other, Layout) or self.shape != other.shape:
            raise BadLayout("other")
        return all([kind in other.kinds for kind in self._kinds])

    def __lt__(self, other):
        return self <= other and len(self._kinds) < len(other.kinds)

    def __eq__(self, other):
        return isinstance(other, Layout) and self.shape == other.shape and self._kinds == other.kinds

    def __str__(self):
        return "\n".join([f"shape {str(self.shape)}", *[str(kind) for kind in self._kinds]])

    @classmethod
    def read(cls, text):
        """The layout with this text."""
        if not isinstance(text, str):
            raise BadText(0, 0)
        keys, days, kinds = take_layout(text.split("\n"), 0)
        return cls(Shape(keys, days), *kinds)


def fault_of(kinds):
    """The index of the first that is no kind, or whose class stands ahead; "blocks" for stripes without; or None."""
    for at, kind in enumerate(kinds):
        if not isinstance(kind, Kind) or kind.WORD in [other.WORD for other in kinds[:at]]:
            return at
    words = [kind.WORD for kind in kinds]
    return "blocks" if Stripes.WORD in words and Blocks.WORD not in words else None


def check_kinds(kinds):
    """Raise BadKind for kinds of which no layout can be made."""
    fault = fault_of(kinds)
    if fault is not None:
        raise BadKind(fault)


def are_kinds(value):
    """Whether any value is a list or tuple of kinds of which a layout can be made."""
    return isinstance(value, (list, tuple)) and fault_of(value) is None


def check_fit(shape, kinds):
    """Raise TooMany for kinds that have too many units on a shape."""
    if count_on(shape, kinds) > Layout.MOST:
        raise TooMany("units", Layout.MOST)


def count_on(shape, kinds):
    """How many units the kinds have together on a shape."""
    blocks = blocks_among(kinds)
    return sum([kind.count_on(shape, blocks) for kind in kinds])


def blocks_among(kinds):
    """The Blocks among the kinds, or None."""
    for kind in kinds:
        if kind.WORD == Blocks.WORD:
            return kind
    return None


def ordered(kinds):
    """The list of the kinds, in the order of their units."""
    return [kind for word in WORDS for kind in kinds if kind.WORD == word]


def pairs_of(shape, kinds):
    """The list of the pairs of a unit and its answers, the kinds being in order."""
    blocks = blocks_among(kinds)
    return [pair for kind in kinds for pair in kind.pairs_on(shape, blocks)]


def told_units(layout, units):
    """The list of the units of a layout that are told, in order, each once."""
    if not isinstance(units, (list, tuple)):
        raise BadUnit(None)
    for unit in units:
        if unit not in layout:
            raise BadUnit(unit)
    return [unit for unit in layout.units if unit in units]


def take_layout(lines, first):
    """The keys, the days and the kinds of a layout that lines tell; the first one has this number."""
    keys, days, words = take_shape(words_of(lines[0], first).behind_one(["shape"]))
    words.end()
    kinds = []
    for at, line in enumerate(lines[1:], start=first + 1):
        kind, words = take_kind(words_of(line, at), kind_choices(kinds))
        words.end()
        kinds.append(kind)
    return keys, days, kinds


def kind_choices(kinds):
    """The first words of the kinds that can stand behind these."""
    words = [kind.WORD for kind in kinds]
    later = KIND_WORDS[WORDS.index(words[-1]) + 1:] if words else KIND_WORDS
    return [word for word in later if word != "stripes" or Blocks.WORD in words]
