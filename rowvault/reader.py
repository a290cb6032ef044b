"""Things, read from their texts."""

from rowvault.books import Book, take_name, take_rows
from rowvault.errors import BadText
from rowvault.layouts import Layout, take_layout
from rowvault.orders import Order, take_order
from rowvault.parts import Part, take_places
from rowvault.plan_texts import take_steps
from rowvault.plans import plan_by
from rowvault.questions import Question, take_weights
from rowvault.shapes import Shape, take_shape
from rowvault.tables import Table, take_amounts
from rowvault.vaults import Vault
from rowvault.words import words_of

THINGS = ("shape", "order", "plan", "layout", "part", "table", "question", "book", "vault")


def read(text):
    """The thing with this text."""
    if not isinstance(text, str):
        raise BadText(0, 0)
    lines = text.split("\n")
    word = lines[0]
    if word not in THINGS:
        raise BadText(0, 0)
    check_line(lines, 1)
    if word == "layout":
        return layout_of(lines[1:])
    if word == "vault":
        return vault_of(lines)
    if word in ("shape", "order", "plan"):
        thing = thing_on(word, lines[1])
        check_end(lines, 2)
        return thing
    shape = thing_on("shape", lines[1])
    check_line(lines, 2)
    thing = shaped_thing(word, shape, words_of(lines[2], 2))
    check_end(lines, 3)
    return thing


def check_line(lines, at):
    """Raise BadText if this line is missing."""
    if at >= len(lines):
        raise BadText(len(lines), 0)


def check_end(lines, at):
    """Raise BadText if there is this line, which is one too many."""
    if at < len(lines):
        raise BadText(at, 0)


def thing_on(word, line):
    """The shape, the order or the plan that the line behind its word tells."""
    words = words_of(line, 1)
    if word == "shape":
        keys, days, words = take_shape(words)
        words.end()
        return Shape(keys, days)
    if word == "order":
        told, words = take_order(words)
        words.end()
        return Order(*told)
    steps, words = take_steps(words)
    words.end()
    return plan_by(steps)


def shaped_thing(word, shape, words):
    """The part, the table, the question or the book that a line tells."""
    if word == "part":
        places, words = take_places(words, shape)
        words.end()
        return Part(shape, *places)
    if word == "table":
        return table_on(shape, words)
    if word == "question":
        weights, words = take_weights(words, shape)
        words.end()
        return Question(shape, weights)
    rows, words = take_rows(words, shape)
    words.end()
    pairs = [(name, Question(shape, weights)) for name, weights in rows]
    return Book(shape, *pairs)


def table_on(shape, words):
    """The table that the next words tell, which are the last ones."""
    amounts, words = take_amounts(words, shape)
    words.end()
    return Table(shape, amounts)


def layout_of(lines):
    """The layout that lines, the first of which is line 1, tell together."""
    keys, days, kinds = take_layout(lines, 1)
    return Layout(Shape(keys, days), *kinds)


def vault_of(lines):
    """The vault that the lines behind the first one tell."""
    after = 2
    while after < len(lines) and first_word(lines[after]) not in ("unit", "mark"):
        after = after + 1
    layout = layout_of(lines[1:after])
    answers = {}
    marks = {}
    last = ""
    for at, line in enumerate(lines[after:], start=after):
        words = words_of(line, at)
        if marks == {} and words.peek() == "unit":
            unit, told = take_unit_line(words.behind(), layout, list(answers))
            answers[unit] = told
        else:
            last, words = take_name(words.behind_one(["mark"]), last)
            marks[last] = table_on(layout.shape, words.behind_one([":"]))
    return Vault.of(layout, answers, marks)


def first_word(line):
    """The first word of a line."""
    return line.split(" ")[0]


def take_unit_line(words, layout, ahead):
    """The unit, behind those ahead, and the tuple of its answers that the next words tell, which are the last ones."""
    units = list(layout.units)
    if ahead != []:
        units = [unit for at, unit in enumerate(units) if ahead[-1] in units[:at]]
    unit, words = take_unit_of(words, units)
    words = words.behind_one([":"])
    answers = []
    for _ in layout[unit]:
        answer, words = words.take_whole()
        answers.append(answer)
    words.end()
    return unit, tuple(answers)


def take_unit_of(words, units):
    """The one of some units that the next words tell, and the words behind it."""
    rows = [unit.split(" ") for unit in units]
    at = 0
    while rows == [] or at < len(rows[0]):
        word, words = words.take_one([row[at] for row in rows])
        rows = [row for row in rows if row[at] == word]
        at = at + 1
    return " ".join(rows[0]), words
