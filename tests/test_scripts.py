"""Scripts: which lines can stand, word by word; play against the same deeds on a store kept in the tests."""

import re
import unittest

from rowvault.cuts import Every
from rowvault.errors import BadCount, BadText, BadVault
from rowvault.kinds import Blocks, Buckets, Kind, Pages
from rowvault.layouts import Layout
from rowvault.orders import Order
from rowvault.questions import Question
from rowvault.scripts import Script, play
from rowvault.shapes import Shape
from rowvault.tables import Table
from rowvault.units import is_unit, read_units
from rowvault.vaults import Vault
from tests.crashed import JOURNALS
from tests.helpers import OTHER, TWO, Case, any_values, is_int
from tests.reading import changed
from tests.store import ALL, lines_of, outcome_of, run_of

WHOLE = re.compile(r"-?[1-9][0-9]*|0")
NAME = re.compile(r"[a-z]{1,8}")
RESERVED = """days keys every leads sizes blocks pages cells buckets stripes block page cell bucket parity journal read
given none order""".split()
FULL = Layout(TWO, Blocks(Every(2)), Pages(1), Buckets(1))


def is_name(word):
    return NAME.fullmatch(word) is not None and word not in RESERVED


def is_whole(word):
    return WHOLE.fullmatch(word) is not None


def read_of(read, words, start):
    """The index of the first wrong word as a class's own read tells it, of the words from an index on."""
    try:
        read(" ".join(words[start:]))
    except BadText as error:
        return start + error.word
    return None


def by_tests(words, tests, start):
    """The index of the first word that does not pass its test; the number of the words if one is missing."""
    for at, test in enumerate(tests):
        if start + at >= len(words) or not test(words[start + at]):
            return start + at
    return start + len(tests) if len(words) > start + len(tests) else None


def first_wrong(words, shape):
    """The index of the first word of a line that cannot stand, or the number of the words; None for a right line."""
    days = [str(day) for day in range(shape.days)]
    place = [lambda word: word in shape.key_names, lambda word: word in days]
    word = words[0]
    if word in ("put", "add"):
        return by_tests(words, place + [is_whole], 1)
    if word in ("back", "undo", "recover", "heal"):
        return by_tests(words, [], 1)
    if word == "mark":
        return by_tests(words, [is_name], 1)
    if word == "ask":
        return read_of(lambda text: Question.read(text, shape), words, 1)
    if word == "asked":
        return 1 if len(words) < 2 or not is_name(words[1]) else read_of(lambda text: Question.read(text, shape), words, 2)
    if word == "lose":
        return read_of(read_units, words, 1)
    if word == "bring":
        return wrong_unit(words)
    if word == "crash":
        return wrong_crash(words, place)
    return wrong_kinds(words) if word == "lay" else 0


def wrong_unit(words):
    if len(words) < 2 or words[1] not in ("journal", "block", "page", "cell", "bucket", "parity"):
        return 1
    many = {"journal": 0, "cell": 2, "parity": 2}.get(words[1], 1)
    tests = [lambda word, low=1 if words[1] == "cell" and at == 0 else 0: is_whole(word) and low <= int(word) <= 99 for at in range(many)]
    return by_tests(words, tests, 2)


def wrong_crash(words, place):
    at = 1
    while at < len(words) and words[at] in Order.WORDS and words[at] not in words[1:at]:
        at += 1
    if at == 1 or at == len(words) or words[at] != ":":
        return at
    tests = place + [is_whole, lambda word: is_whole(word) and int(word) >= 0, lambda word: word in JOURNALS]
    return by_tests(words, tests, at + 1)


def wrong_kinds(words):
    start = 1
    while True:
        after = words.index(";", start) if ";" in words[start:] else len(words)
        try:
            Kind.read(" ".join(words[start:after]))
        except BadText as error:
            return start + error.word
        if after == len(words):
            return None
        start = after + 1


LINES = ["put a 0 5", "add b 1 -7", "lose block 0 , cell 2 0", "lose -", "lose journal , page 1", "bring parity 0 1", "bring journal", "back",
         "ask 2 a 0 , -1 b 1", "ask -", "asked then 1 a 1", "asked x -", "mark then", "undo", "recover", "heal",
         "crash block page : a 0 -5 2 none", "crash parity : b 1 0 0 both", "lay pages 1", "lay blocks keys sizes 1 2 ; buckets 1",
         "lay stripes 2 1 ; blocks days leads ; pages 3"]
VOCABULARY = ["put", "lose", "asked", "a", "b", "c", "0", "1", "2", "-1", "07", "", "-", ",", ";", ":", "block", "cell", "journal", "then",
              "none", "both", "days", "pages", "blocks", "every", "longnames", "toolongname", "99", "100", "%"]


class Lines(Case):
    def test_which_words_can_stand(self):
        done = {True: 0, False: 0}
        for line in LINES:
            for words in [line.split(" "), *changed(line.split(" "), VOCABULARY)]:
                text = " ".join(words)
                words = text.split(" ")
                wrong = first_wrong(words, TWO)
                done[wrong is None] += 1
                if wrong is None:
                    self.same(Script(TWO, "undo", text).lines, ("undo", text))
                else:
                    self.raises(BadText(1, wrong), Script, TWO, "undo", text, "x")
        self.assertGreater(min(done.values()), 200)

    def test_values_that_are_no_lines(self):
        for value in any_values():
            if not isinstance(value, Shape):
                self.raises(BadVault("shape"), Script, value, 5)
                self.raises(BadVault("shape"), Script.read, 5, value)
            self.raises(BadText(2, 0), Script, TWO, "back", "undo", value, 7)
            if not isinstance(value, str):
                self.raises(BadText(0, 0), Script.read, value, TWO)
        self.raises(BadText(0, 2), Script, TWO, "put a 2 5")
        self.raises(BadText(0, 2), Script, Shape(["a"], 1), "put a 1 5")
        self.raises(BadText(0, 5), Script, TWO, "crash block : a 0")
        # Integers of any size can stand.
        self.same(len(Script(TWO, "put a 0 " + "9" * 5000)), 1)

    def test_what_it_has(self):
        script = Script(TWO, *LINES)
        self.same([script.lines, len(script), list(script), bool(Script(TWO))], [tuple(LINES), len(LINES), LINES, False])
        self.assertEqual(script.shape, TWO)
        for at in range(len(LINES)):
            self.same(script[at], LINES[at])
            self.assertEqual(script.without(at), Script(TWO, *LINES[:at], *LINES[at + 1:]))
        for value in any_values() + [len(LINES), -1]:
            if not (is_int(value) and 0 <= value < len(LINES)):
                self.raises(BadCount(value), script.__getitem__, value)
                self.raises(BadCount(value), script.without, value)
            self.raises(BadVault("other"), lambda: script + value)
            self.assertIs(script == value, False)
        self.raises(BadVault("other"), lambda: script + Script(OTHER))
        short, other = Script(TWO, "undo"), Script(TWO, "back", "undo")
        self.assertEqual(short + other, Script(TWO, "undo", "back", "undo"))
        self.assertEqual(short + Script(TWO), short)
        self.assertNotEqual(short, other)
        self.assertNotEqual(Script(TWO), Script(OTHER))

    def test_texts(self):
        self.same([str(Script(TWO)), str(Script(TWO, *LINES))], ["-", "\n".join(LINES)])
        for lines in ([], LINES[:1], LINES):
            self.assertEqual(Script.read(text=str(Script(TWO, *lines)), shape=TWO), Script(TWO, *lines))
        self.raises(BadText(0, 0), Script.read, "", TWO)
        self.raises(BadText(1, 0), Script.read, "undo\n", TWO)
        self.raises(BadText(1, 0), Script.read, "undo\n-", TWO)
        self.raises(BadText(2, 3), Script.read, "undo\nback\nput a 0", TWO)


class Played(Case):
    def test_against_a_store(self):
        seen = {}
        for seed in range(80):
            deeds, outcomes, first = [], [], None
            for store, deed in run_of(300 + seed, 24):
                first = first or store.copy()
                deeds.append(deed)
                outcomes.append(outcome_of(store.copy(), deed))
            store = first
            script = Script(store.layout.shape, *[lines_of(deed) for deed in deeds])
            vault = Vault(store.layout, store.table)
            told = play(script, vault=vault)
            self.same(told, tuple(outcomes))
            beside = first.copy()
            for deed in deeds:
                outcome_of(beside, deed)
            self.same([vault.units_left, list(vault)], [tuple(unit for unit in beside.layout.units if unit in beside.left),
                                                        [row[0] for row in beside.log]])
            for unit, answers in beside.answers().items():
                self.same(vault.read_unit(unit), answers)
            for deed, one in zip(deeds, told):
                case = (deed[0], one if isinstance(one, str) and deed[0] != "back" else "answer")
                seen[case] = seen.get(case, 0) + 1
        for case in [("put", "done"), ("put", "refused Untold"), ("add", "refused Torn"), ("lose", "done"), ("lose", "refused Gone"),
                     ("bring", "done"), ("bring", "refused BadUnit"), ("back", "answer"), ("ask", "answer"), ("ask", "refused Untold"),
                     ("asked", "answer"), ("asked", "refused NoName"), ("mark", "refused Taken"), ("undo", "put"), ("undo", "add"),
                     ("undo", "refused NoDeed"), ("recover", "new"), ("recover", "old"), ("heal", "new"), ("heal", "old"),
                     ("crash", "done"), ("crash", "refused BadOrder"), ("lay", "done"), ("lay", "refused BadKind")]:
            self.assertGreater(seen.get(case, 0), 0, case)
        self.assertEqual({word for word, _ in seen}, set(ALL))

    def test_wrong_values(self):
        script, vault = Script(TWO, "undo"), Vault(FULL)
        self.raises_first(play, {"script": script, "vault": vault}, [("script", "undo", BadVault("script")), ("vault", FULL, BadVault("vault"))])
        self.raises(BadVault("vault"), play, Script(OTHER), vault)
        for value in any_values():
            if not isinstance(value, Script):
                self.raises(BadVault("script"), play, value, None)
            self.raises(BadVault("vault"), play, script, value)

    def test_a_layout_that_cannot_be(self):
        vault = Vault(FULL, Table(TWO, {("a", 0): 4}))
        lines = ["lay stripes 2 1", "lay pages 1 ; pages 2", "lay cells 2 ; blocks keys every 1", "ask 1 a 0"]
        self.same(play(Script(TWO, *lines), vault), ("refused BadKind", "refused BadKind", "done", 4))
        wide = Shape(list("abcdef"), 6)
        vault = Vault(Layout(wide, Blocks(Every(6))))
        self.same(play(Script(wide, "lay blocks keys every 1 ; cells 2"), vault), ("refused TooMany",))

    def test_no_layout_told(self):
        vault = Vault(Layout(TWO, Buckets(1)))
        self.same(play(Script(TWO, "lay pages 2", "back", "lose -", "lose block 0"), vault), ("refused Untold", "-", "done", "refused BadUnit"))


if __name__ == "__main__":
    unittest.main()
