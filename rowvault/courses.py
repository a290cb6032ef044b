"""Courses: what a script does to a vault that begins whole, whatever its table is.

An amount is a pair: (True, number) for the first amount and a number, (False, number) for a number.
An answer is a pair of a question for the first table and a number that is added.
"""

from rowvault.asked import bare_part
from rowvault.crashes import JOURNAL, Wreck, change_vector, check_moment, new_vector, vectors_behind
from rowvault.errors import BadUnit, Gone, NoDeed, NoName, Taken, Torn, Untold
from rowvault.orders import check_order
from rowvault.questions import Question
from rowvault.told import Teller


class Course:
    """What is known of a vault without its table: its units left, its amounts, marks, log and tear.

    It does what a vault does, by the same names, and raises the same errors, but for their papers.
    """

    def __init__(self, layout):
        self.layout = layout
        self.left = layout.units
        self.amounts = {place: (True, 0) for place in layout.shape.places}
        self.tear = None
        self._tables = {}
        # For each change of the log its word, its place, and the amount ahead of it.
        self._log = ()
        self._teller = None

    def question_at(self, place):
        """The amount of a place, as a question."""
        return Question(self.layout.shape, {place: 1})

    def check_whole(self):
        """Raise Torn while the vault is torn."""
        if self.tear is not None:
            raise Torn()

    def telling(self):
        """What the units left tell."""
        if self._teller is None:
            units = [unit for unit in self.layout.units if unit in self.left]
            self._teller = Teller(self.layout, units, bare_part(self.layout, None))
        return self._teller

    def check_told(self, questions):
        """Raise Torn, or Untold unless the units left tell all questions."""
        self.check_whole()
        teller = self.telling()
        if not all([teller.can_tell(question) for question in questions]):
            raise Untold(None)

    def answer_on(self, question, amounts):
        """The answer to a question by some amounts."""
        weights = {place: weight for place, weight in question.weights.items() if amounts[place][0]}
        number = sum([weight * amounts[place][1] for place, weight in question.weights.items()])
        return Question(self.layout.shape, weights), number

    def write(self, word, place, amount):
        """Let a place have another amount, and put this behind the log."""
        self._log = (*self._log, (word, place, self.amounts[place]))
        self.amounts = {**self.amounts, place: amount}

    def keep(self, layout, units):
        """Let just these units of a layout be left."""
        self.layout = layout
        self.left = tuple([unit for unit in (JOURNAL, *layout.units) if unit in units])
        self._teller = None

    def add(self, place, change):
        """Let the amount of a place grow by a change."""
        self.check_whole()
        kept, number = self.amounts[place]
        self.write("add", place, (kept, number + change))

    def lose(self, *units):
        """Let some units get lost."""
        for unit in units:
            if unit not in self.layout and not (unit == JOURNAL and JOURNAL in self.written()):
                raise BadUnit(unit)
            if unit not in self.left:
                raise Gone(unit)
        self.keep(self.layout, [unit for unit in self.left if unit not in units])

    def bring(self, unit):
        """Let a lost unit be left again."""
        if unit not in self.layout or unit in self.left:
            raise BadUnit(unit)
        self.check_told(self.layout[unit])
        self.keep(self.layout, [*self.left, unit])

    def bring_back(self):
        """Let all lost units that are told be left again; the tuple of them."""
        self.check_whole()
        teller = self.telling()
        lost = [unit for unit in self.layout.units if unit not in self.left]
        told = [unit for unit in lost if all([teller.can_tell(one) for one in self.layout[unit]])]
        self.keep(self.layout, [*self.left, *told])
        return tuple(told)

    def ask(self, question):
        """The answer that the units left tell."""
        self.check_told([question])
        return self.answer_on(question, self.amounts)

    def mark(self, name):
        """Keep the amounts under a name."""
        if name in self._tables:
            raise Taken(name)
        self.check_told([self.question_at(place) for place in self.layout.shape.places])
        self._tables = {**self._tables, name: self.amounts}

    def ask_at(self, name, question):
        """The answer to a question for a mark."""
        if name not in self._tables:
            raise NoName(name)
        self.check_whole()
        return self.answer_on(question, self._tables[name])

    def undo(self):
        """Take back the last change; its word."""
        self.check_whole()
        if self._log == ():
            raise NoDeed()
        word, place, amount = self._log[-1]
        self._log = self._log[:-1]
        self.amounts = {**self.amounts, place: amount}
        return word

    def exchange(self, layout):
        """Let the vault have another layout."""
        self.check_told([question for key, question in layout.answers()])
        self.keep(layout, layout.units)

    def crash(self, order, place, amount, moment, journal):
        """A put that is cut off at a moment."""
        check_order(order, self.layout)
        check_moment(moment, order.writes(self.layout, place, journal))
        self.check_told([self.question_at(place)])
        self.tear = (order, place, amount, moment, journal)
        self.keep(self.layout, [*self.left, *[unit for unit in self.written() if unit == JOURNAL]])

    def written(self):
        """The tuple of what is written at the moment of the crash, if there was one."""
        if self.tear is None:
            return ()
        order, place, _, moment, journal = self.tear
        return order.writes(self.layout, place, journal)[:moment]

    def wreck(self):
        """What the units left tell behind the crash."""
        _, place, _, _, journal = self.tear
        vectors = vectors_behind(self.layout, place, journal, self.written())
        return Wreck(self.layout, place, {unit: vectors[unit] for unit in vectors if unit in self.left})

    def recover(self):
        """Let all units be left by the table that is told; which one it is."""
        if self.tear is None:
            raise NoDeed()
        wreck = self.wreck()
        if not wreck.tells_all():
            raise Torn()
        is_new = wreck.can_tell(new_vector(self.layout, self.tear[1]))
        is_told = wreck.can_tell(change_vector(self.layout))
        self.keep(self.layout, self.layout.units)
        return self.mended(is_new, is_told)

    def heal(self):
        """Go on or go back without the table; which one it is."""
        if self.tear is None:
            raise NoDeed()
        touched = [unit for unit in self.layout.touched_by(self.tear[1]) if unit in self.left]
        open_units = [unit for unit in touched if unit not in self.written()]
        is_told = self.wreck().can_tell(change_vector(self.layout))
        if not is_told and open_units != touched and open_units != []:
            raise Untold(None)
        self.keep(self.layout, [unit for unit in self.left if unit != JOURNAL])
        return self.mended(is_told or open_units != touched, is_told)

    def mended(self, is_new, is_told):
        """The word of what a recovery led to."""
        _, place, amount, _, _ = self.tear
        self.tear = None
        if not is_new:
            return "old"
        self.write("put", place, (False, amount))
        if not is_told:
            self._log = ()
        return "new"

    def __setitem__(self, at, worth):
        self.check_told([self.question_at(at)])
        self.write("put", at, (False, worth))

    def answers_left(self):
        """The list of the answers of all that is left."""
        behind = self.amounts
        if self.tear is not None:
            behind = {**self.amounts, self.tear[1]: (False, self.tear[2])}
        written = self.written()
        answers = []
        for unit in self.left:
            if unit == JOURNAL:
                answers.extend(self.journal_told(behind))
            else:
                amounts = behind if unit in written else self.amounts
                answers.extend([self.answer_on(question, amounts) for question in self.layout[unit]])
        return answers

    def journal_told(self, behind):
        """The list of what the journal answers."""
        _, place, amount, _, journal = self.tear
        question = self.question_at(place)
        old, number = self.answer_on(question, self.amounts)
        if journal == "change":
            return [(-old, amount - number)]
        if journal == "both":
            return [(old, number), self.answer_on(question, behind)]
        return [(old, number)] if journal == "old" else [self.answer_on(question, behind)]
