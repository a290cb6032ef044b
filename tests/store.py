"""A store kept in the tests beside a vault: a table, the units left, marks, a log and a tear; told by ranks of rows."""

import random

from rowvault import errors
from rowvault.layouts import Layout
from rowvault.orders import Order
from rowvault.questions import Question
from rowvault.shapes import Shape
from rowvault.tables import Table
from rowvault.units import in_order
from tests.crashed import JOURNALS, SMALL, left_rows, orders_for, rows_behind, is_told, tells, wanted_row, writes_for
from tests.papers import tells_all

NAMES = ["early", "late", "x"]


class Refused(Exception):
    """What the document tells of a deed that is refused: the class of the error, and its fields or None."""

    def __init__(self, kind, *fields, question=None):
        self.kind, self.fields, self.question = kind, list(fields), question


class Store:
    def __init__(self, layout, table):
        self.layout, self.table = layout, table
        self.left = list(layout.units)
        self.marks, self.log, self.tear = {}, [], None

    def copy(self):
        other = Store(self.layout, self.table)
        other.left, other.marks, other.log, other.tear = list(self.left), dict(self.marks), list(self.log), self.tear
        return other

    def written(self):
        if self.tear is None:
            return []
        order, place, _, moment, journal = self.tear
        return writes_for(self.layout, order, place, journal)[:moment]

    def units(self):
        """All units that there are: a written journal, too."""
        return (["journal"] if "journal" in self.written() else []) + list(self.layout.units)

    def answers(self):
        """What all units that are left answer."""
        found = {}
        for unit in self.left:
            if unit == "journal":
                old, new = self.table[self.tear[1]], self.tear[2]
                found[unit] = {"old": (old,), "new": (new,), "change": (new - old,), "both": (old, new)}[self.tear[4]]
            else:
                new = self.tear is not None and unit in self.written()
                table = self.table.with_amount(self.tear[1], self.tear[2]) if new else self.table
                found[unit] = tuple(one(table) for one in self.layout[unit])
        return found

    def tells(self, question):
        return tells_all(self.layout, [unit for unit in self.left if unit != "journal"], [question])

    def need(self, *questions):
        """All of them are wanted, the first one first."""
        if self.tear is not None:
            raise Refused(errors.Torn)
        for question in questions:
            if not self.tells(question):
                raise Refused(errors.Untold, question=question)

    def at(self, place):
        return Question(self.layout.shape, {place: 1})

    def write(self, word, place, amount):
        self.log.append((word, place, amount - self.table[place]))
        self.table = self.table.with_amount(place, amount)

    def done(self, deed):
        """What a deed tells, None if nothing; raises Refused."""
        return getattr(self, f"do_{deed[0]}")(*deed[1:])

    def do_put(self, place, amount):
        self.need(self.at(place))
        self.write("put", place, amount)

    def do_add(self, place, change):
        self.need()
        self.write("add", place, self.table[place] + change)

    def do_lose(self, units):
        for at, unit in enumerate(units):
            if unit not in self.units():
                raise Refused(errors.BadUnit, unit)
            if unit not in self.left or unit in units[:at]:
                raise Refused(errors.Gone, unit)
        self.left = [unit for unit in self.left if unit not in units]

    def do_bring(self, unit):
        if unit not in self.layout.units or unit in self.left:
            raise Refused(errors.BadUnit, unit)
        self.need(*self.layout[unit])
        self.left.append(unit)

    def do_back(self):
        self.need()
        told = [unit for unit in self.layout.units if unit not in self.left and all(self.tells(one) for one in self.layout[unit])]
        self.left += told
        return tuple(told)

    def do_ask(self, question):
        self.need(question)
        return question(self.table)

    def do_asked(self, name, question):
        if name not in self.marks:
            raise Refused(errors.NoName, name)
        self.need()
        return question(self.marks[name])

    def do_mark(self, name):
        if name in self.marks:
            raise Refused(errors.Taken, name)
        self.need(*[self.at(place) for place in self.layout.shape])
        self.marks[name] = self.table

    def do_undo(self):
        self.need()
        if not self.log:
            raise Refused(errors.NoDeed)
        word, place, change = self.log.pop()
        self.table = self.table.with_amount(place, self.table[place] - change)
        return word

    def do_lay(self, kinds):
        try:
            layout = Layout(self.layout.shape, *kinds)
        except errors.VaultError as error:
            raise Refused(type(error), *vars(error).values())
        self.need(*[one for _, one in layout.answers()])
        self.layout, self.left = layout, list(layout.units)

    def do_crash(self, order, place, amount, moment, journal):
        if not order.fits(self.layout):
            raise Refused(errors.BadOrder, "order")
        writes = writes_for(self.layout, order, place, journal)
        if moment > len(writes):
            raise Refused(errors.BadCount, moment)
        self.need(self.at(place))
        self.tear = (order, place, amount, moment, journal)
        if "journal" in writes[:moment]:
            self.left.append("journal")

    def rows(self):
        """The rows of what is left behind a crash."""
        rows = rows_behind(self.layout, self.tear[1], self.tear[4], self.written())
        return left_rows(rows, [unit for unit in rows if unit not in self.left])

    def mend(self, is_new, is_told):
        _, place, amount, _, _ = self.tear
        self.tear = None
        self.left = [unit for unit in self.left if unit != "journal"]
        if not is_new:
            return "old"
        self.write("put", place, amount)
        if not is_told:
            self.log = []
        return "new"

    def is_change_told(self):
        return tells(self.rows(), [0] * len(self.layout.shape) + [1])

    def do_recover(self):
        if self.tear is None:
            raise Refused(errors.NoDeed)
        if not is_told(self.layout, self.tear[1], self.rows()):
            raise Refused(errors.Torn)
        is_new = tells(self.rows(), wanted_row(self.layout, self.tear[1], True))
        is_change = self.is_change_told()
        self.left = list(self.layout.units)
        return self.mend(is_new, is_change)

    def do_heal(self):
        if self.tear is None:
            raise Refused(errors.NoDeed)
        touched = [unit for unit in writes_for(self.layout, self.tear[0], self.tear[1], "none") if unit in self.left]
        written = [unit for unit in touched if unit in self.written()]
        if self.is_change_told():
            return self.mend(True, True)
        if not written:
            return self.mend(False, False)
        if written == touched:
            return self.mend(True, False)
        raise Refused(errors.Untold)


def some_table(chance, shape):
    return Table(shape, {place: chance.choice([0, 0, 1, 5, -3, 10 ** 25]) for place in shape})


def some_question(chance, layout):
    total = Question(layout.shape, {})
    if len(layout) and chance.random() < 0.6:
        for _, one in layout.answers([chance.choice(layout.units) for _ in range(2)]):
            total = total + chance.choice([1, -1, 2]) * one
        return total
    return Question(layout.shape, {chance.choice(layout.shape.places): chance.choice([1, -2]) for _ in range(chance.randint(0, 2))})


def some_deed(chance, store, kinds):
    """A deed, right more often than not."""
    layout, shape = store.layout, store.layout.shape
    place, amount = chance.choice(shape.places), chance.choice([0, 1, -7, 4, 10 ** 20])
    units = store.units()
    word = chance.choice(kinds)
    if store.tear is not None and chance.random() < 0.6:
        word = chance.choice(["recover", "heal", "lose"])
    if word in ("put", "add"):
        return (word, place, amount)
    if word == "lose":
        some = store.left if store.left and chance.random() < 0.85 else units + ["block 90", "journal"]
        return (word, in_order(chance.sample(some, min(len(some), chance.randint(0, 2)))))
    if word == "bring":
        lost = [unit for unit in units if unit not in store.left]
        return (word, chance.choice(lost if lost and chance.random() < 0.8 else units + ["page 70"]))
    if word == "ask":
        return (word, some_question(chance, layout))
    if word == "asked":
        return (word, chance.choice(NAMES), some_question(chance, layout))
    if word == "mark":
        return (word, chance.choice(NAMES))
    if word == "lay":
        others = [one for one in SMALL if one.shape == shape] or [layout]
        row = list(chance.choice(others).kinds)
        chance.shuffle(row)
        if chance.random() < 0.2:
            row = row + row[:1]
        return (word, tuple(row)) if row else ("undo",)
    if word == "crash":
        orders = orders_for(layout) or [Order("block")]
        order = chance.choice(orders) if chance.random() < 0.9 else Order("cell", "block")
        journal = chance.choice(JOURNALS)
        most = len(writes_for(layout, order, place, journal)) if order.fits(layout) else 3
        return (word, order, place, amount, chance.randint(0, most + (chance.random() < 0.1)), journal)
    return (word,)


ALL = ["put", "add", "lose", "bring", "back", "ask", "asked", "mark", "undo", "recover", "heal", "crash", "crash", "lay"]
SHARED = SMALL + [Layout.read(text) for text in (
    "shape a b days 1\npages 1", "shape a b days 1\nblocks keys every 1\nbuckets 1", "shape a b days 2\nblocks keys every 1",
    "shape a b days 2\nblocks days leads\npages 1\nstripes 2 1")]


def lines_of(deed):
    """A deed as a line of a script."""
    word = deed[0]
    if word in ("put", "add"):
        return f"{word} {deed[1][0]} {deed[1][1]} {deed[2]}"
    if word == "lose":
        return f"lose {' , '.join(deed[1]) or '-'}"
    if word == "crash":
        return f"crash {deed[1]} : {deed[2][0]} {deed[2][1]} {deed[3]} {deed[4]} {deed[5]}"
    if word == "lay":
        return f"lay {' ; '.join(str(kind) for kind in deed[1])}"
    return " ".join([word, *[str(one) for one in deed[1:]]])


def run_of(seed, many, kinds=ALL, layout=None):
    """A store, and deeds drawn for it as it goes; the store is as it was ahead of each one."""
    chance = random.Random(seed)
    store = Store(layout or chance.choice(SHARED), None)
    store.table = some_table(chance, store.layout.shape)
    for _ in range(many):
        deed = some_deed(chance, store, kinds)
        yield store, deed
        try:
            other = store.copy()
            other.done(deed)
        except Refused:
            continue
        store.__dict__.update(other.__dict__)


def outcome_of(store, deed):
    """What play tells of a deed; the store goes on."""
    other = store.copy()
    try:
        told = other.done(deed)
    except Refused as refused:
        return f"refused {refused.kind.__name__}"
    store.__dict__.update(other.__dict__)
    if deed[0] == "back":
        return " , ".join(in_order(told)) or "-"
    return "done" if told is None else told


def shape_of(text):
    return Shape.read(text)
