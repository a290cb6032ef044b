"""Desks: each line against the calls that it stands for, and which words can stand."""

import itertools
import random
import unittest

from rowvault.desk import Desk
from rowvault.errors import BadLine, VaultError
from rowvault.kinds import Kind
from rowvault.layouts import Layout
from rowvault.losses import rebuilt, strength
from rowvault.orders import Order, judge_order
from rowvault.questions import Question
from rowvault.readings import musts, partings, readings
from rowvault.shapes import Shape
from rowvault.told import told
from rowvault.units import read_units, units_text
from rowvault.vaults import Vault
from tests.helpers import TWO, Case, any_values
from tests.reading import changed
from tests.store import some_question
from tests.test_scripts import by_tests, is_name, is_whole, read_of, wrong_unit

START = ("shape a b days 2", "kind blocks keys every 2", "kind buckets 1", "question q 1 a 0")
ALONE = ("units", "strength", "names", "open", "back")
NAMED = ("musts", "readings", "partings", "ask")


def is_count(word):
    return is_whole(word) and int(word) >= 0 and len(word) <= 60


def is_amount(word):
    return is_whole(word) and len(word.lstrip("-")) <= 60


def first_wrong(words):
    """The index of the first word of a line that cannot stand, or the number of the words; None for a right line."""
    word = words[0]
    if word in ALONE:
        return by_tests(words, [], 1)
    if word in NAMED:
        return by_tests(words, [is_name], 1)
    if word == "kind":
        return 1 if len(words) < 2 else None
    if word == "question":
        return 1 if len(words) < 2 or not is_name(words[1]) else 2 if len(words) < 3 else None
    if word == "rebuilt":
        return read_of(read_units, words, 1)
    if word == "told":
        return 1 if len(words) < 2 or not is_name(words[1]) else read_of(read_units, words, 2)
    if word in ("lose", "bring"):
        return wrong_unit(words)
    if word == "put":
        return by_tests(words, [is_name, is_count, is_amount], 1)
    if word == "safe":
        return 1 if len(words) < 2 or not is_count(words[1]) else read_of(Order.read, words, 2)
    if word != "shape":
        return 0
    at = 1
    while at < len(words) and is_name(words[at]):
        at += 1
    return at if at == 1 or at == len(words) or words[at] != "days" else by_tests(words, [is_count], at + 1)


class Beside:
    """What a desk keeps, kept in the test: what each line tells is asked of the functions themselves."""

    def __init__(self):
        self.shape, self.kinds, self.questions, self.vault = None, [], {}, None

    def answer(self, line):
        words = line.split(" ")
        if words[0] != "shape" and self.shape is None:
            return "no shape"
        if words[0] in ("put", "ask", "lose", "bring", "back") and self.vault is None:
            return "no vault"
        try:
            return getattr(self, f"do_{words[0]}")(*words[1:])
        except VaultError as error:
            return f"refused {type(error).__name__}"
        except KeyError:
            return "refused NoName"

    def layout(self):
        return Layout(self.shape, *self.kinds)

    def do_shape(self, *words):
        self.shape = Shape(words[:-2], int(words[-1]))
        self.kinds, self.questions, self.vault = [], {}, None
        return "ok"

    def do_kind(self, *words):
        kind = Kind.read(" ".join(words))
        self.kinds = [one for one in self.kinds if type(one) is not type(kind)] + [kind]
        self.vault = None
        return "ok"

    def do_question(self, name, *words):
        self.questions[name] = Question.read(" ".join(words), self.shape)
        return "ok"

    def do_names(self):
        return " ".join(sorted(self.questions)) or "-"

    def do_units(self):
        return units_text(self.layout().units)

    def do_strength(self):
        return str(strength(self.layout()).many)

    def do_musts(self, name):
        question = self.questions[name]
        return units_text(musts(self.layout(), question))

    def do_told(self, name, *words):
        question = self.questions[name]
        return "told" if told(self.layout(), read_units(" ".join(words)), question) else "parted"

    def do_readings(self, name):
        question = self.questions[name]
        return " ; ".join(units_text(lot) for lot in readings(self.layout(), question)) or "none"

    def do_partings(self, name):
        question = self.questions[name]
        return " ; ".join(units_text(lot) for lot in partings(self.layout(), question)) or "none"

    def do_rebuilt(self, *words):
        paper = rebuilt(self.layout(), read_units(" ".join(words)))
        return "rebuilt" if paper else f"lacking {paper.unit} {paper.index}"

    def do_safe(self, many, *words):
        paper = judge_order(self.layout(), Order(*words), int(many))
        return "safe" if paper else f"unsafe {paper.place[0]} {paper.place[1]} {paper.moment} {units_text(paper.lost)}"

    def do_open(self):
        self.vault = Vault(self.layout())
        return "ok"

    def do_put(self, key, day, amount):
        self.vault[key, int(day)] = int(amount)
        return "ok"

    def do_ask(self, name):
        return str(self.vault.ask(self.questions[name]))

    def do_lose(self, *words):
        self.vault.lose(" ".join(words))
        return "ok"

    def do_bring(self, *words):
        self.vault.bring(" ".join(words))
        return "ok"

    def do_back(self):
        self.vault.undo()
        return "ok"


def some_line(chance, beside):
    """A line in a right form; what it asks is right more often than not."""
    name = chance.choice(["q", "r", "s", "zz"])
    layout = Layout(beside.shape or TWO, *[one for one in beside.kinds if one.WORD != "parity"])
    units = list(layout.units) or ["block 0"]
    lot = sorted(chance.sample(units, min(len(units), chance.randint(0, 3))), key=units.index)
    some = units_text(lot if chance.random() < 0.9 else ["block 77"])
    unit = chance.choice(units + ["page 9", "journal"])
    lost = list(beside.vault.units_lost) if beside.vault is not None else []
    words = [one.WORD for one in beside.kinds]
    chance.shuffle(words)
    key, day = chance.choice(layout.shape.places)
    kind = chance.choice(["blocks keys every 2", "blocks days leads", "pages 1", "pages 2", "buckets 1", "cells 2", "stripes 2 1", "pages 7", "x"])
    question = some_question(chance, layout) if chance.random() < 0.8 else "1 a"
    if chance.random() < 0.03:
        return chance.choice(["shape b a days 2", "shape a days 3", "shape a a days 1", "shape a days 0", "shape a b c d e days 8"])
    return chance.choice([f"kind {kind}", "units", f"musts {name}", "strength", f"question {name} {question}", "names", f"told {name} {some}",
                          f"readings {name}", f"partings {name}", f"rebuilt {some}", f"safe {chance.randint(0, 2)} {' '.join(words or ['block'])}",
                          "open", f"put {key} {day} {chance.choice([5, -3, 10 ** 59])}", f"ask {name}", f"lose {unit}", f"bring {chance.choice(lost or [unit])}", "back",
                          f"put {chance.choice(['c', key])} {chance.choice([9, day])} 1", f"ask {name}", "open" if beside.vault is None else f"ask {name}"])


class Lines(Case):
    def test_against_the_calls(self):
        seen = {}
        for seed in range(160):
            chance = random.Random(seed)
            desk, beside = Desk(), Beside()
            lines = ["units", *START] if seed % 2 else []
            for at in range(45):
                line = lines[at] if at < len(lines) else some_line(chance, beside)
                told_so = desk.say(line) if at % 2 else desk(line=line)
                self.same(told_so, beside.answer(line))
                word = told_so.split(" ")[0]
                case = (line.split(" ")[0], told_so if word in ("refused", "no") else "told")
                seen[case] = seen.get(case, 0) + 1
        for word in [*ALONE, *NAMED, "shape", "kind", "question", "told", "rebuilt", "safe", "put", "lose", "bring"]:
            self.assertGreater(seen.get((word, "told"), 0), 3, word)
        for case in [("kind", "refused BadText"), ("told", "refused NoName"), ("told", "refused BadUnit"), ("units", "refused BadKind"),
                     ("shape", "refused BadShape"), ("musts", "refused Untold"), ("put", "refused BadPlace"), ("ask", "refused Untold"),
                     ("lose", "refused Gone"), ("lose", "refused BadUnit"), ("back", "refused NoDeed"), ("ask", "no vault"), ("units", "no shape"),
                     ("question", "refused BadText"), ("bring", "refused BadUnit"), ("shape", "refused TooMany")]:
            self.assertGreater(seen.get(case, 0), 0, case)

    def test_which_words_can_stand(self):
        desk = Desk()
        lines = [*START, "units", "musts q", "strength", "names", "told q block 1 , bucket 0", "told q -", "readings q", "partings q",
                 "rebuilt block 0 , block 1", "rebuilt -", "safe 0 block bucket", "open", "put a 0 -5", "ask q", "lose block 0", "bring block 0", "back"]
        vocabulary = ["", "a", "q", "0", "1", "-1", "07", "days", "block", "bucket", "page", ",", "-", "units", "x", "toolongname", "9" * 60, "9" * 61,
                      "-" + "9" * 60, "-" + "9" * 61, "100"]
        done = {True: 0, False: 0}
        desk.run(*lines)
        for line in lines:
            for words in [line.split(" "), *changed(line.split(" "), vocabulary)]:
                text = " ".join(words)
                wrong = first_wrong(text.split(" "))
                done[wrong is None] += 1
                if wrong is None:
                    self.assertIs(type(desk.say(text)), str)
                    desk.run(*START, "open")
                else:
                    self.raises(BadLine(wrong), desk.say, text)
                    self.raises(BadLine(wrong), desk, text)
        self.assertGreater(min(done.values()), 150)

    def test_values_that_are_no_lines(self):
        desk = Desk()
        for value in any_values():
            self.raises(BadLine(0), desk.say, value)
            self.raises(BadLine(0), desk.run, value)
        # What cannot stand is told ahead of what is lacking.
        self.raises(BadLine(2), desk.say, "ask q x")
        self.same(desk.say("ask q"), "no shape")

    def test_amounts_of_sixty_figures(self):
        desk = Desk()
        desk.run(*START, "open")
        for amount in ("9" * 60, "-" + "9" * 60):
            self.same(desk.run(f"put a 0 {amount}", "ask q"), ["ok", amount])
        for amount in ("9" * 61, "-" + "9" * 61):
            self.raises(BadLine(3), desk.say, f"put a 0 {amount}")
        self.raises(BadLine(1), desk.say, f"safe {'9' * 61} block")
        self.same(desk.say(f"safe {'9' * 60} block bucket"), "refused BadCount")
        self.same(desk.run(f"question q {'7' * 70} a 0", "put a 0 11", "ask q"), ["ok", "ok", str(int("7" * 70) * 11)])

    def test_without_a_shape_and_without_a_vault(self):
        desk = Desk()
        lines = ["kind pages 1", "units", "musts q", "strength", "question q 1 a 0", "names", "told q -", "readings q", "partings q", "rebuilt -",
                 "safe 0 block", "open", "put a 0 1", "ask q", "lose block 0", "bring block 0", "back"]
        self.same(desk.run(*lines), ["no shape"] * len(lines))
        desk.say("shape a days 1")
        self.same(desk.run(*[line for line in lines if line.split(" ")[0] in ("put", "ask", "lose", "bring", "back")]), ["no vault"] * 5)
        self.same(desk.run("open", "kind pages 1", "back"), ["ok", "ok", "no vault"])
        self.same(desk.run("open", "shape a days 1", "back", "names", "units"), ["ok", "ok", "no vault", "-", "-"])

    def test_refused_lines_change_nothing(self):
        desk = Desk()
        desk.run(*START, "open", "put a 0 5", "put b 1 2")
        before = desk.run("units", "names", "ask q", "readings q")
        lines = ["shape a a days 2", "kind pages 0", "kind x", "question q 1 c 0", "question q 0 a 0", "told r -", "told q page 0", "put c 0 1", "put a 2 1",
                 "lose page 0", "bring block 0", "bring page 3", "safe 4 block bucket", "safe 0 block", "musts r", "rebuilt parity 0 0"]
        for line in lines:
            self.assertTrue(desk.say(line).startswith("refused "), line)
            self.same(desk.run("units", "names", "ask q", "readings q"), before)

    def test_a_bad_line_leaves_the_desk_as_it_was(self):
        desk = Desk()
        ahead = ("units", "names", "ask q", "back")
        for first in ((), START, (*START, "open", "put a 0 5"), (*START, "open", "put a 0 5", "lose block 1")):
            for lines in (["put a 0 7", "lose block 0"], ["back"], ["kind pages 1"], ["question r 1 a 1", "question q 1 b 0"], ["shape c days 3"],
                          ["open", "put a 0 9"], ["bring block 1"], []):
                desk, other = Desk(), Desk()
                desk.run(*first)
                other.run(*first)
                self.raises(BadLine(1), desk.run, *lines, "back x", "put")
                self.same(desk.run(*ahead), other.run(*ahead))
                self.same(desk.run(*ahead), other.run(*ahead))

    def test_stripes_ahead_of_blocks(self):
        desk = Desk()
        self.same(desk.run("shape a b days 1", "kind stripes 2 1", "units", "open", "kind blocks keys every 1", "units", "open"),
                  ["ok", "ok", "refused BadKind", "refused BadKind", "ok", "block 0 , block 1 , parity 0 0", "ok"])
        desk.run("shape a b c d e f days 6", "kind blocks keys every 1", "kind cells 2")
        self.same(desk.run("units", "strength", "rebuilt -", "kind cells 6", "rebuilt -"),
                  ["refused TooMany", "refused TooMany", "refused TooMany", "ok", "rebuilt"])

    def test_lots_of_none_and_none(self):
        desk = Desk()
        self.same(desk.run(*START, "question n -", "readings n", "partings n", "musts n", "told n -"), ["ok"] * 5 + ["-", "none", "-", "told"])
        self.same(desk.run("shape a days 2", "kind buckets 2", "question q 1 a 0", "readings q", "partings q", "musts q"),
                  ["ok", "ok", "ok", "none", "-", "refused Untold"])
        self.same(desk.run("strength", "kind pages 1", "strength", "shape a days 1", "strength"), ["0", "ok", "1", "ok", "refused Untold"])

    def test_order_of_words_of_shapes(self):
        for keys in itertools.permutations(["a", "b", "c"]):
            desk = Desk()
            self.same(desk.run(f"shape {' '.join(keys)} days 2", "kind blocks keys every 1", "units"), ["ok", "ok", units_text([f"block {k}" for k in range(6)])])


if __name__ == "__main__":
    unittest.main()
