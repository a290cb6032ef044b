"""Texts of things, written and read back; each text with a word or a line otherwise."""

import random
import unittest

from rowvault.books import Book
from rowvault.cuts import Every
from rowvault.errors import BadKind, BadShape, BadText, TooMany, VaultError
from rowvault.kinds import Blocks, Buckets, Kind
from rowvault.layouts import Layout
from rowvault.orders import Order
from rowvault.parts import Part
from rowvault.plans import Plan, Read
from rowvault.questions import Question
from rowvault.reader import read
from rowvault.shapes import Shape
from rowvault.tables import Table
from rowvault.texts import write
from rowvault.vaults import Vault
from tests.helpers import TWO, Case, any_values
from tests.store import SHARED, some_table
from tests.test_plans import some_plan
from tests.test_scripts import is_name, is_whole

FEW = Layout(TWO, Blocks(Every(2)), Buckets(1))
WORDS = ["shape", "order", "plan", "layout", "part", "table", "question", "book", "vault"]
ALONE = {"shape": Shape.read, "order": Order.read, "plan": Plan.read, "layout": Layout.read}
SHAPED = {"part": Part.read, "table": Table.read, "question": Question.read, "book": Book.read}


def some_vault(chance):
    layout = chance.choice(SHARED)
    vault = Vault(layout, some_table(chance, layout.shape))
    for name in chance.sample(["zz", "a", "mark", "unit"], chance.randint(0, 3)):
        try:
            vault.mark(name)
        except VaultError:
            pass
        vault.add(chance.choice(layout.shape.places), chance.randint(-5, 10 ** 70))
    vault.lose(*chance.sample(layout.units, chance.randint(0, len(layout))))
    return vault


def some_things(seed, many):
    chance = random.Random(seed)
    for _ in range(many):
        layout = chance.choice(SHARED)
        shape = layout.shape
        places = [place for place in shape if chance.random() < 0.6]
        question = Question(shape, {place: chance.choice([1, -7, 10 ** 80]) for place in places})
        table = Table(shape, {place: chance.choice([1, -7, 10 ** 80]) for place in places})
        book = Book(shape, *[(name, question * k) for k, name in enumerate(chance.sample(["one", "two", "then", "x"], chance.randint(0, 3)))])
        words = chance.sample(Order.WORDS, chance.randint(1, 5))
        yield chance.choice([shape, layout, Part(shape, *places), question, table, book, Order(*words), some_plan(chance, 9),
                             some_vault(chance), some_vault(chance)])


def text_of(thing):
    """As the document tells it."""
    kinds = {Shape: "shape", Layout: "layout", Part: "part", Question: "question", Table: "table", Book: "book", Order: "order"}
    if isinstance(thing, Vault):
        rows = [f"unit {unit} : {' '.join(str(one) for one in thing.read_unit(unit))}" for unit in thing.units_left]
        rows += [f"mark {name} : {thing.marks[name]}" for name in sorted(thing.marks)]
        return "\n".join(["vault", str(thing.layout), *rows])
    word = "plan" if isinstance(thing, Plan) else kinds[type(thing)]
    return "\n".join([word, str(thing.shape), str(thing)] if word in SHAPED else [word, str(thing)])


def shifted(call, first):
    """What a class's own read raises, its line and words counted in the text; None if it raises nothing."""
    try:
        call()
    except BadText as error:
        return BadText(first + error.line, error.word)
    except VaultError as error:
        return error
    return None


def error_for(text):
    """The error that a text is to raise, None for a right one."""
    lines = text.split("\n")
    word = lines[0]
    if word not in WORDS:
        return BadText(0, 0)
    if len(lines) == 1:
        return BadText(1, 0)
    if word == "layout":
        return shifted(lambda: Layout.read("\n".join(lines[1:])), 1)
    if word == "vault":
        return vault_error(lines)
    if word in ALONE:
        error = shifted(lambda: ALONE[word](lines[1]), 1)
        return error or (BadText(2, 0) if len(lines) > 2 else None)
    error = shifted(lambda: Shape.read(lines[1]), 1)
    if error or len(lines) == 2:
        return error or BadText(2, 0)
    error = shifted(lambda: SHAPED[word](lines[2], Shape.read(lines[1])), 2)
    return error or (BadText(3, 0) if len(lines) > 3 else None)


def vault_error(lines):
    after = next((at for at, line in enumerate(lines) if at > 1 and line.split(" ")[0] in ("unit", "mark")), len(lines))
    error = shifted(lambda: Layout.read("\n".join(lines[1:after])), 1)
    if error:
        return error
    layout = Layout.read("\n".join(lines[1:after]))
    left, last = list(layout.units), None
    for at in range(after, len(lines)):
        words = lines[at].split(" ")
        if words[0] == "unit" and last is None:
            wrong, left = wrong_unit_line(words, layout, left)
        elif words[0] == "mark":
            wrong, last = wrong_mark_line(words, layout, last or "")
        else:
            wrong = 0
        if wrong is not None:
            return BadText(at, wrong)
    return None


def wrong_unit_line(words, layout, left):
    """The index of the first word that cannot stand, None for a right line; the units behind this one."""
    rows = [unit.split(" ") for unit in left]
    at = 1
    while not any(len(row) == at - 1 and words[1:at] == row for row in rows):
        if at >= len(words) or not any(row[:at] == words[1:at + 1] for row in rows):
            return at, left
        at += 1
    unit = " ".join(words[1:at])
    if at >= len(words) or words[at] != ":":
        return at, left
    for _ in layout[unit]:
        at += 1
        if at >= len(words) or not is_whole(words[at]):
            return at, left
    return (at + 1 if len(words) > at + 1 else None), left[left.index(unit) + 1:]


def wrong_mark_line(words, layout, last):
    if len(words) < 2 or not is_name(words[1]) or words[1] <= last:
        return 1, last
    if len(words) < 3 or words[2] != ":":
        return 2, last
    error = shifted(lambda: Table.read(" ".join(words[3:]), layout.shape), 0)
    return (3 + error.word if error else None), words[1]


def changed_texts(text, chance):
    """A text with a word or a line left out, put in, exchanged, doubled, cut."""
    lines = text.split("\n")
    for at in range(len(lines) + 1):
        yield "\n".join(lines[:at])
        yield "\n".join(lines[:at] + [chance.choice(["", "unit block 0 : 1", "mark a : -", "x", "buckets 1", "a days 1"])] + lines[at:])
    for at, line in enumerate(lines):
        yield "\n".join(lines[:at] + lines[at + 1:])
        yield "\n".join(lines[:at] + [line] + lines[at:])
        other = chance.randrange(len(lines))
        rows = list(lines)
        rows[at], rows[other] = rows[other], rows[at]
        yield "\n".join(rows)
        words = line.split(" ")
        for k in range(len(words) + 1):
            more = chance.choice(["", "unit", "mark", "block", "0", "1", ":", ",", "-", "a", "b", "days", "9", "zz", "page", "("])
            for row in (words[:k], words[:k] + words[k + 1:], words[:k] + [more] + words[k:], words[:k] + [more] + words[k + 1:],
                        words[:k] + words[k - 1:k] + words[k:]):
                yield "\n".join(lines[:at] + [" ".join(row)] + lines[at + 1:])


class Texts(Case):
    def test_written_and_read_back(self):
        kinds = {}
        for thing in some_things(1, 300):
            text = write(thing=thing)
            self.same(text, text_of(thing))
            other = read(text=text)
            self.assertIs(type(other), type(thing))
            self.assertEqual(other, thing)
            self.same(write(other), text)
            if isinstance(thing, Vault):
                self.assertEqual(other.marks, thing.marks)
                self.same([list(other), other.torn], [[], None])
            kinds[type(thing)] = kinds.get(type(thing), 0) + 1
        self.assertGreater(len(kinds), 10)

    def test_with_a_word_or_a_line_otherwise(self):
        chance = random.Random(2)
        seen = {}
        for thing in some_things(3, 110):
            if len(write(thing)) > 900:
                continue
            for text in set(changed_texts(write(thing), chance)):
                error = error_for(text)
                if error is None:
                    self.same(write(read(text)), text)
                else:
                    self.raises(error, read, text)
                seen[type(error)] = seen.get(type(error), 0) + 1
        self.assertGreater(min(seen[BadText], seen[type(None)]), 100)

    def test_errors_of_classes_behind_the_words_of_their_line(self):
        wide = "a b c d e f days 8"
        for word in SHAPED:
            self.raises(BadText(1, 8), read, f"{word}\n{wide} x\nx")
            self.raises(TooMany("places", 36), read, f"{word}\n{wide}\nx")
            self.raises(TooMany("places", 36), read, f"{word}\n{wide}")
        self.raises(TooMany("places", 36), read, f"shape\n{wide}\nx")
        for word in ("layout", "vault"):
            self.raises(BadText(3, 1), read, f"{word}\nshape {wide}\npages 1\nbuckets 9")
            self.raises(TooMany("places", 36), read, f"{word}\nshape {wide}\npages 1")
            self.raises(BadText(2, 0), read, f"{word}\nshape {wide}\nx")
            full = f"{word}\nshape a b c d e f days 6\nblocks keys every 1\ncells 2"
            self.raises(TooMany("units", 60), read, full)
        self.raises(TooMany("units", 60), read, full + "\nunit x")
        self.raises(TooMany("places", 36), read, f"vault\nshape {wide}\nmark x")
        plan = "given 1"
        for _ in range(60):
            plan = f"( {plan} * 2 )"
        self.raises(TooMany("nodes", 60), read, "plan\n" + plan)
        self.raises(TooMany("nodes", 60), read, "plan\n" + plan + "\nx")
        self.raises(BadText(1, len(plan.split(" "))), read, "plan\n" + plan + " x\nx")

    def test_no_shapes_and_no_lines(self):
        for value in any_values():
            if not isinstance(value, str) or value not in WORDS:
                self.raises(BadText(0, 0), read, value)
        for word in WORDS:
            self.raises(BadText(1, 0), read, word)
            self.raises(BadText(0, 0), read, word + " ")
        self.raises(BadText(1, 0), read, "vault\n")
        self.raises(BadText(1, 0), read, "vault\nunit block 0 : 1")
        self.raises(BadText(4, 0), read, f"vault\n{FEW}\n")
        self.same(read(f"vault\n{FEW}").units_lost, FEW.units)
        self.raises(BadText(5, 0), read, f"vault\n{FEW}\nmark x : -\nunit block 0 : 1 2")
        self.raises(BadText(5, 1), read, f"vault\n{FEW}\nmark x : -\nmark x : -")
        self.raises(BadText(4, 1), read, f"vault\n{FEW}\nunit journal : 1")
        self.raises(BadText(4, 5), read, f"vault\n{FEW}\nunit block 0 : 1")
        self.raises(BadText(4, 6), read, f"vault\n{FEW}\nunit block 0 : 1 2 3")
        self.assertRaises(BadShape, Shape, [], 1)

    def test_what_has_no_text(self):
        torn = Vault(FEW)
        torn.crash(Order("block", "bucket"), ("a", 0), 1, 0)
        for value in [torn, Kind.read("pages 1"), Read, *any_values()]:
            things = (Shape, Part, Table, Question, Layout, Book, Order, Plan)
            if not isinstance(value, things) and not (isinstance(value, Vault) and value.torn is None):
                self.raises(BadKind("thing"), write, value)
        torn.recover()
        self.same(write(torn), write(Vault(FEW)))

    def test_what_the_log_and_later_changes_do(self):
        vault = Vault(FEW, Table(TWO, {("a", 0): 5}))
        vault.mark("then")
        text = write(vault)
        other = read(text)
        other.lose("block 0")
        other.add(("a", 0), 3)
        self.same(write(vault), text)
        self.assertNotEqual(write(other), text)


if __name__ == "__main__":
    unittest.main()
