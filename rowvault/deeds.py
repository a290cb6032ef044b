"""Deeds: what the lines of scripts tell, as tuples of a word and what stands behind it."""

from rowvault.books import take_name
from rowvault.crashes import JOURNALS
from rowvault.errors import BadText
from rowvault.kinds import KIND_WORDS, take_kind
from rowvault.orders import Order, take_order
from rowvault.questions import Question, take_weights
from rowvault.shapes import take_place
from rowvault.units import take_unit, take_units
from rowvault.words import whole_of, words_of

ALONE = ("back", "undo", "recover", "heal")
WORDS = ("put", "add", "lose", "bring", "ask", "asked", "mark", "crash", "lay", "back", "undo", "recover", "heal")


def deed_of(shape, line, at):
    """The deed that a line, any value, tells; it has this number."""
    if not isinstance(line, str):
        raise BadText(at, 0)
    word, words = words_of(line, at).take_one(WORDS)
    deed, words = take_deed(word, words, shape)
    words.end()
    return deed


def take_deed(word, words, shape):
    """The deed of a word that the next words tell, and the words behind it."""
    if word in ALONE:
        return (word,), words
    if word in ("put", "add"):
        place, words = take_place(words, shape)
        amount, words = words.take_whole()
        return (word, place, amount), words
    if word == "lose":
        units, words = take_units(words)
        return (word, units), words
    if word == "bring":
        unit, words = take_unit(words, -1, ())
        return (word, unit), words
    if word == "lay":
        kinds, words = take_kinds(words)
        return (word, kinds), words
    if word == "crash":
        return take_crash(words, shape)
    return take_asked(word, words, shape)


def take_asked(word, words, shape):
    """The deed of a question, a name or both that the next words tell, and the words behind it."""
    if word == "ask":
        weights, words = take_weights(words, shape)
        return (word, Question(shape, weights)), words
    name, words = take_name(words, "")
    if word == "mark":
        return (word, name), words
    weights, words = take_weights(words, shape)
    return (word, name, Question(shape, weights)), words


def take_kinds(words):
    """The tuple of the kinds that the next words tell, and the words behind them."""
    kind, words = take_kind(words, KIND_WORDS)
    kinds = [kind]
    while words.peek() == ";":
        kind, words = take_kind(words.behind(), KIND_WORDS)
        kinds.append(kind)
    return tuple(kinds), words


def take_crash(words, shape):
    """The deed of a crash that the next words tell, and the words behind it."""
    told, words = take_order(words)
    place, words = take_place(words.behind_one([":"]), shape)
    amount, words = words.take_whole()
    if words.is_at_whole() and whole_of(words.peek()) < 0:
        words.refuse()
    moment, words = words.take_whole()
    journal, words = words.take_one(JOURNALS)
    return ("crash", Order(*told), place, amount, moment, journal), words
