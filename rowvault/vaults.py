"""Vaults: live stores, which hold what the units that are left answer, and no table beside them."""

from rowvault.asked import check_layout, check_question
from rowvault.checks import is_name, is_whole
from rowvault.crashes import (
    JOURNAL, Wreck, change_vector, check_moment, check_place, journal_answers, vectors_behind,
)
from rowvault.errors import (
    BadAmount, BadLayout, BadName, BadPlan, BadTable, BadUnit, BadVault, Gone, NoDeed, NoName, Taken, Torn, Untold,
)
from rowvault.holding import are_marks, are_some_answers, changed, teller_of
from rowvault.images import answers_for, worked_out
from rowvault.layouts import Layout
from rowvault.orders import check_order, recovered
from rowvault.plans import Plan, check_reads, worked_out_by
from rowvault.questions import Question
from rowvault.storms import pair_along
from rowvault.tables import Table, is_table_of
from rowvault.trials import Kept


class Tear:
    """A paper: the crash behind which a vault is torn."""

    def __init__(self, order, place, moment, journal):
        self.order = order
        self.place = place
        self.moment = moment
        self.journal = journal

    def __eq__(self, other):
        return (isinstance(other, Tear) and self.order == other.order and self.place == other.place
                and self.moment == other.moment and self.journal == other.journal)


class Unhealed:
    """A false paper: two pairs of a table and a change, alike in all that is left, unlike in the change."""

    def __init__(self, one, other):
        self.one = one
        self.other = other

    def __bool__(self):
        return False

    def __eq__(self, other):
        return isinstance(other, Unhealed) and self.one == other.one and self.other == other.other


class Vault:
    """The answers of the units left, a log of changes, marks, and a tear behind a crash.

    Each of them is replaced as a whole when it changes, so a trial keeps what it was.
    """

    def __init__(self, layout, table=None):
        check_layout(layout)
        if table is not None and not is_table_of(table, layout.shape):
            raise BadTable("table")
        self._log = ()
        self._words = ()
        self._tables = {}
        self._tear = None
        # What trials that are not over keep.
        self._kept = None
        self.layout = layout
        self._held = answers_for(layout, Table(layout.shape) if table is None else table)
        self._teller = teller_of(layout, self._held)

    @staticmethod
    def of(layout, answers, marks=None):
        """The vault with these answers of the units that are left."""
        check_layout(layout)
        if not are_some_answers(layout, answers):
            raise BadVault("answers")
        if marks is not None and not are_marks(layout, marks):
            raise BadVault("marks")
        vault = Vault(layout)
        vault.hold(layout, {unit: answers[unit] for unit in layout.units if unit in answers})
        vault._tables = {} if marks is None else dict(marks)
        return vault

    @property
    def units_left(self):
        """The tuple of the units of the layout that are left."""
        return tuple([unit for unit in self.layout.units if unit in self._held])

    @property
    def units_lost(self):
        """The tuple of the units of the layout that are lost."""
        return tuple([unit for unit in self.layout.units if unit not in self._held])

    @property
    def marks(self):
        """The dict from the names of the marks to their tables."""
        return {name: self._tables[name] for name in self._tables}

    @property
    def torn(self):
        """None, or the Tear of a crash."""
        return self._tear

    def hold(self, layout, held):
        """Hold these answers of units of a layout."""
        self.layout = layout
        self._held = held
        self._teller = teller_of(layout, held)

    def holds(self, unit):
        """Whether a unit is left."""
        return unit in self._held

    def read_unit(self, unit):
        """The answers of a unit that is left."""
        self.check_left(unit)
        return self._held[unit]

    def lose(self, *units):
        """Let some units get lost."""
        held = dict(self._held)
        for unit in units:
            self.check_left(unit)
            if unit not in held:
                raise Gone(unit)
            del held[unit]
        self.hold(self.layout, held)

    def trial(self):
        """A block behind which the vault is as it was when it was entered: the vault itself leads it."""
        return self

    def __enter__(self):
        self._kept = Kept(self, self._kept)
        return self

    def __exit__(self, kind, value, trace):
        self.layout = self._kept.layout
        self._held = self._kept.held
        self._teller = self._kept.teller
        self._log = self._kept.log
        self._words = self._kept.words
        self._tables = self._kept.tables
        self._tear = self._kept.tear
        self._kept = self._kept.outer

    def tried(self, work):
        """What work returns of the vault, which is as it was behind it."""
        with self.trial() as same:
            return work(same)

    def twin(self):
        """An equal vault with the same log and marks, that goes its own way."""
        other = Vault(self.layout)
        other.hold(self.layout, self._held)
        other._log = self._log
        other._words = self._words
        other._tables = self._tables
        other._tear = self._tear
        return other

    def check_left(self, unit):
        """Raise BadUnit for what is no unit of the vault, Gone for one that is lost."""
        is_written = self._tear is not None and JOURNAL in self.writes_of(self._tear)
        if unit not in self.layout and not (is_written and unit == JOURNAL):
            raise BadUnit(unit)
        if unit not in self._held:
            raise Gone(unit)

    def check_whole(self):
        """Raise Torn while the vault is torn."""
        if self._tear is not None:
            raise Torn()

    def amount_at(self, place):
        """The amount of a place, behind the errors that the units left raise."""
        self.check_whole()
        return worked_out(self._teller, Question(self.layout.shape, {place: 1}), self._held)

    def add(self, place, change):
        """Let the amount of a place grow by a change, told or not."""
        check_place(self.layout, place)
        if not is_whole(change):
            raise BadAmount(change)
        self.check_whole()
        self.write("add", place, change)

    def write(self, word, place, change):
        """Write a change to the units left, and to the log."""
        self._held = changed(self.layout, self._held, list(self._held), place, change)
        self.note(word, place, change)

    def note(self, word, place, change):
        """Put a change behind the log."""
        self._log = (*self._log, (place, change))
        self._words = (*self._words, word)

    def ask(self, question):
        """The answer that the units left tell."""
        check_question(self.layout, question)
        self.check_whole()
        return worked_out(self._teller, question, self._held)

    def table_back(self):
        """The table that the units left tell."""
        return Table(self.layout.shape, {place: self.amount_at(place) for place in self.layout.shape.places})

    def follow(self, plan):
        """What a plan works out from the units left."""
        if not isinstance(plan, Plan):
            raise BadPlan("plan")
        check_reads(plan, self.layout)
        for unit in plan.units:
            self.check_left(unit)
        self.check_whole()
        return worked_out_by(plan, self._held)

    def bring(self, unit):
        """Let a lost unit be left again, worked out from those left."""
        if unit not in self.layout or unit in self._held:
            raise BadUnit(unit)
        self.check_whole()
        self.hold(self.layout, {**self._held, unit: self.answers_told(self.layout[unit])})

    def bring_back(self):
        """Bring all lost units that can be; the tuple of them."""
        self.check_whole()
        told = [unit for unit in self.units_lost if all([self._teller.can_tell(one) for one in self.layout[unit]])]
        self.hold(self.layout, {**self._held, **{unit: self.answers_told(self.layout[unit]) for unit in told}})
        return tuple(told)

    def answers_told(self, questions):
        """The tuple of the answers to some questions, behind the error of the first one that is not told."""
        return tuple([worked_out(self._teller, one, self._held) for one in questions])

    def exchange(self, layout):
        """Let the vault have another layout, all of its units left."""
        if not isinstance(layout, Layout) or layout.shape != self.layout.shape:
            raise BadLayout("layout")
        self.check_whole()
        self.hold(layout, {unit: self.answers_told(layout[unit]) for unit in layout.units})

    def mark(self, name):
        """Keep the table under a name."""
        if not is_name(name):
            raise BadName(name)
        if name in self._tables:
            raise Taken(name)
        self._tables = {**self._tables, name: self.table_back()}

    def ask_at(self, name, question):
        """The answer for the table of a mark."""
        if not isinstance(name, str) or name not in self._tables:
            raise NoName(name)
        check_question(self.layout, question)
        self.check_whole()
        return question(self._tables[name])

    def undo(self):
        """Take back the last change of the log; its word."""
        self.check_whole()
        if self._log == ():
            raise NoDeed()
        place, change = self._log[-1]
        word = self._words[-1]
        self._held = changed(self.layout, self._held, list(self._held), place, -change)
        self._log = self._log[:-1]
        self._words = self._words[:-1]
        return word

    def crash(self, order, place, amount, moment, journal="none"):
        """A put in an order of writes that is cut off at a moment."""
        check_order(order, self.layout)
        check_place(self.layout, place)
        if not is_whole(amount):
            raise BadAmount(amount)
        writes = order.writes(self.layout, place, journal)
        check_moment(moment, writes)
        old = self.amount_at(place)
        written = writes[:moment]
        held = changed(self.layout, self._held, written, place, amount - old)
        if JOURNAL in written:
            held = {JOURNAL: journal_answers(journal, old, amount), **held}
        self._held = held
        self._tear = Tear(order, place, moment, journal)

    def writes_of(self, tear):
        """The tuple of what is written at the moment of a crash."""
        return tear.order.writes(self.layout, tear.place, tear.journal)[:tear.moment]

    def wreck(self):
        """What the units left tell behind a crash."""
        tear = self._tear
        vectors = vectors_behind(self.layout, tear.place, tear.journal, self.writes_of(tear))
        return Wreck(self.layout, tear.place, {unit: vectors[unit] for unit in vectors if unit in self._held})

    def change_told(self):
        """The change of the put that was cut off, if what is left tells it; otherwise None."""
        return self.wreck().worked_out(change_vector(self.layout), self._held)

    def recover(self):
        """Let all units be left, with the answers for the table that what is left tells; which one it is."""
        tear = self._tear
        if tear is None:
            raise NoDeed()
        paper = recovered(self.layout, tear.order, tear.place, tear.moment, self._held, tear.journal)
        change = self.change_told()
        self.hold(self.layout, answers_for(self.layout, paper.table))
        return self.mended(paper.is_new, change)

    def heal(self):
        """Go on or go back without the table; which one it is."""
        tear = self._tear
        if tear is None:
            raise NoDeed()
        written = self.writes_of(tear)
        touched = [unit for unit in self.layout.touched_by(tear.place) if unit in self._held]
        left = [unit for unit in touched if unit not in written]
        change = self.change_told()
        if change is None and left != touched and left != []:
            direction = self.wreck().direction_for(change_vector(self.layout))
            raise Untold(Unhealed((Table(self.layout.shape), 0), pair_along(self.layout, direction)))
        held = self._held if change is None else changed(self.layout, self._held, left, tear.place, change)
        self.hold(self.layout, {unit: held[unit] for unit in held if unit != JOURNAL})
        return self.mended(change is not None or left != touched, change)

    def mended(self, is_new, change):
        """The word of what a recovery led to; behind it the vault is not torn."""
        place = self._tear.place
        self._tear = None
        if not is_new:
            return "old"
        if change is None:
            self._log = ()
            self._words = ()
        else:
            self.note("put", place, change)
        return "new"

    def __len__(self):
        return len(self._words)

    def __iter__(self):
        return iter(self._words)

    def __contains__(self, x):
        if x not in self.layout.shape or self._tear is not None:
            return False
        return self._teller.can_tell(Question(self.layout.shape, {x: 1}))

    def __getitem__(self, at):
        check_place(self.layout, at)
        return self.amount_at(at)

    def __setitem__(self, at, worth):
        check_place(self.layout, at)
        if not is_whole(worth):
            raise BadAmount(worth)
        self.write("put", at, worth - self.amount_at(at))

    def __eq__(self, other):
        return (isinstance(other, Vault) and self.layout == other.layout and self._held == other._held
                and self._tear == other._tear)
