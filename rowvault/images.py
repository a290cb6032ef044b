"""Images: what the units of a layout answer of a table."""

from rowvault.asked import bare_part, check_layout, check_question, check_table
from rowvault.checks import is_whole
from rowvault.errors import BadAmount, BadPlace, BadTable, BadUnit, Untold
from rowvault.kinds import Blocks
from rowvault.layouts import told_units
from rowvault.parts import Part
from rowvault.questions import Question
from rowvault.tables import Table
from rowvault.told import Teller, work_out


class Held:
    """Answers of all units that were handed in; an image can be made of them in the place of a table."""

    def __init__(self, held):
        self.held = held


class Image:
    """The answers of all units."""

    def __init__(self, layout, table):
        check_layout(layout)
        if not isinstance(table, Held):
            check_table(layout, table)
        self.layout = layout
        self._answers = table.held if isinstance(table, Held) else answers_for(layout, table)
        self._pairs = tuple([(unit, self._answers[unit]) for unit in layout.units])

    @staticmethod
    def of(layout, answers):
        """The image with these answers."""
        check_layout(layout)
        if not are_answers(layout, answers):
            raise BadTable("answers")
        return Image(layout, Held({unit: answers[unit] for unit in layout.units}))

    @property
    def extent(self):
        """The bytes of all units."""
        return sum([size_of_answers(answers) for unit, answers in self._pairs])

    @property
    def bare(self):
        """The part of the places of all blocks that answer 0 alone."""
        places = [place for unit, answers in self._pairs if is_bare_block(unit, answers)
                  for one in self.layout[unit] for place in one.part.places]
        return Part(self.layout.shape, *places)

    def moved(self, place, by):
        """The image behind by being added to the amount of a place."""
        if place not in self.layout.shape:
            raise BadPlace(place)
        if not is_whole(by):
            raise BadAmount(by)
        return self + Image(self.layout, Table(self.layout.shape, {place: by}))

    def changed_from(self, other):
        """The tuple of the units whose answers are not those of another image."""
        check_other(self, other)
        return tuple([unit for unit, answers in self._pairs if answers != other[unit]])

    def size_of(self, unit):
        """The bytes of a unit."""
        return size_of_answers(self[unit])

    def ask(self, question, units=None):
        """The answer that some units tell, or all."""
        some = told_units(self.layout, self.layout.units if units is None else units)
        check_question(self.layout, question)
        return worked_out(Teller(self.layout, some, bare_part(self.layout, None)), question, self._answers)

    def table_back(self, units=None):
        """The table that some units tell, or all."""
        shape = self.layout.shape
        some = told_units(self.layout, self.layout.units if units is None else units)
        teller = Teller(self.layout, some, bare_part(self.layout, None))
        return Table(shape, {place: worked_out(teller, Question(shape, {place: 1}), self._answers) for place in shape})

    def __iter__(self):
        return iter(self._pairs)

    def __getitem__(self, at):
        if at not in self.layout:
            raise BadUnit(at)
        return self._answers[at]

    def __add__(self, other):
        check_other(self, other)
        return Image(self.layout, Held({unit: sums(answers, other[unit], 1) for unit, answers in self._pairs}))

    def __sub__(self, other):
        check_other(self, other)
        return Image(self.layout, Held({unit: sums(answers, other[unit], -1) for unit, answers in self._pairs}))

    def __eq__(self, other):
        return isinstance(other, Image) and self.layout == other.layout and self._answers == other._answers


def answers_for(layout, table):
    """The dict from the units to the tuples of their answers for a table."""
    # The sums are added here, as an operator, which may make an image, calls no question.
    return {unit: tuple([answer_for(one, table) for one in layout[unit]]) for unit in layout.units}


def answer_for(question, table):
    """The answer to a question for a table."""
    return sum([weight * table[place] for place, weight in question.weights.items()])


def check_other(image, other):
    """Raise BadTable unless the other one is an image of an equal layout."""
    if not isinstance(other, Image) or other.layout != image.layout:
        raise BadTable("other")


def are_answers(layout, value):
    """Whether any value is a dict from all units to as many integers as they have answers."""
    if not isinstance(value, dict) or len(value) != len(layout):
        return False
    return all([unit in layout and are_answers_of(layout, unit, value[unit]) for unit in value])


def are_answers_of(layout, unit, value):
    """Whether any value is a tuple of as many integers as a unit has answers."""
    return are_whole_numbers(value, len(layout[unit]))


def are_whole_numbers(value, many):
    """Whether any value is a tuple of so many integers."""
    return isinstance(value, tuple) and len(value) == many and all([is_whole(number) for number in value])


def sums(one, other, times):
    """The tuple of the sums of numbers and as many other ones, each of these so many times."""
    return tuple([number + times * more for number, more in zip(one, other)])


def size_of_answers(answers):
    """The bytes of a unit with these answers."""
    width = 1
    bound = 128
    while not all([-bound <= answer < bound for answer in answers]):
        width = width * 2
        bound = bound * bound * 2
    return len(answers) * width


def is_bare_block(unit, answers):
    """Whether a unit is a block that answers 0 alone."""
    return unit.startswith(Blocks.WORD) and all([answer == 0 for answer in answers])


def worked_out(teller, question, answers):
    """The answer to a question that the teller tells by these answers."""
    paper = teller.paper_on(question)
    if not paper:
        raise Untold(paper)
    return work_out(paper, answers)
