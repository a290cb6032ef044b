"""Asks: what the lines for a desk ask for, as tuples of a word and what stands behind it."""

from rowvault.books import take_name
from rowvault.checks import is_name
from rowvault.orders import take_order
from rowvault.units import take_unit, take_units

MOST_FIGURES = 60
# What each line needs: nothing, a shape, or a vault, too.
NEEDS = {
    "shape": "", "kind": "shape", "units": "shape", "musts": "shape", "strength": "shape", "question": "shape",
    "names": "shape", "told": "shape", "readings": "shape", "partings": "shape", "rebuilt": "shape", "safe": "shape",
    "open": "shape", "put": "vault", "ask": "vault", "lose": "vault", "bring": "vault", "back": "vault",
}


def take_request(words):
    """The request that the words of a line tell."""
    word, words = words.take_one(list(NEEDS))
    request, words = take_rest(word, words)
    words.end()
    return request


def take_rest(word, words):
    """The request of a word that the next words tell, and the words behind it."""
    if word in ("units", "strength", "names", "open", "back"):
        return (word,), words
    if word == "shape":
        return take_places(word, words)
    if word == "kind":
        text, words = take_text(words)
        return (word, text), words
    if word == "rebuilt":
        units, words = take_units(words)
        return (word, units), words
    if word in ("lose", "bring"):
        unit, words = take_unit(words, -1, ())
        return (word, unit), words
    if word == "safe":
        number, words = take_count(words)
        told, words = take_order(words)
        return (word, number, told), words
    name, words = take_name(words, "")
    if word == "put":
        day, words = take_count(words)
        amount, words = take_number(words)
        return (word, (name, day), amount), words
    if word == "question":
        text, words = take_text(words)
        return (word, name, text), words
    if word == "told":
        units, words = take_units(words)
        return (word, name, units), words
    return (word, name), words


def take_places(word, words):
    """The keys and the days that the next words tell, and the words behind them."""
    key, words = take_name(words, "")
    keys = [key]
    while is_name(words.peek()):
        keys.append(words.peek())
        words = words.behind()
    days, words = take_count(words.behind_one(["days"]))
    return (word, keys, days), words


def take_number(words):
    """The integer of not too many figures that the next word tells, and the words behind it."""
    if words.is_at_whole() and len(words.peek().replace("-", "")) > MOST_FIGURES:
        words.refuse()
    return words.take_whole()


def take_count(words):
    """The integer from 0 on that the next word tells, and the words behind it."""
    if words.peek() is not None and words.peek().startswith("-"):
        words.refuse()
    return take_number(words)


def take_text(words):
    """The text of all words that are left, at least one, and the words behind it."""
    texts = [words.peek()]
    words = words.behind()
    while words.peek() is not None:
        texts.append(words.peek())
        words = words.behind()
    return " ".join(texts), words
