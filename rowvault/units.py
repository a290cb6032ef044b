"""Units: texts of a word and numbers, and their order."""

from rowvault.checks import is_whole_from
from rowvault.errors import BadCount, BadUnit
from rowvault.words import is_whole_text, whole_of, words_of

# The words, in order.
UNIT_WORDS = ("journal", "block", "page", "cell", "bucket", "parity")
PLACES = {"journal": 0, "block": 1, "page": 2, "cell": 3, "bucket": 4, "parity": 5}
# How many numbers stand behind a word.
NUMBERS = {"journal": 0, "block": 1, "page": 1, "cell": 2, "bucket": 1, "parity": 2}
MOST = 99


def is_unit(value):
    """Whether any value is a unit."""
    if not isinstance(value, str):
        return False
    word, *texts = value.split(" ")
    if word not in UNIT_WORDS or len(texts) != NUMBERS[word]:
        return False
    if not all([is_whole_text(text) for text in texts]):
        return False
    return all([is_number(word, at, whole_of(text)) for at, text in enumerate(texts)])


def is_number(word, at, value):
    """Whether any value can stand as the number at an index behind the word."""
    low = 1 if word == "cell" and at == 0 else 0
    return is_whole_from(value, low, MOST)


def unit_of(word, *numbers):
    """The unit of a word and numbers."""
    if not isinstance(word, str) or word not in UNIT_WORDS:
        raise BadUnit(word)
    for at, number in enumerate(numbers):
        if not is_number(word, at, number):
            raise BadUnit(number)
    if len(numbers) != NUMBERS[word]:
        raise BadCount(len(numbers))
    return text_of(word, numbers)


def unit_parts(unit):
    """The word of a unit and the tuple of its numbers."""
    if not is_unit(unit):
        raise BadUnit(unit)
    word, *texts = unit.split(" ")
    return word, tuple([int(text) for text in texts])


def rank(word, numbers):
    """An integer by which units are in order; the first unit has 0."""
    first, second = [*numbers, 0, 0][:2]
    return (PLACES[word] * (MOST + 1) + first) * (MOST + 1) + second


def rank_of(unit):
    """The rank of a unit."""
    word, numbers = unit_parts(unit)
    return rank(word, numbers)


def in_order(units):
    """The tuple of the units, in order, each once."""
    if not isinstance(units, (list, tuple)):
        raise BadUnit(None)
    for unit in units:
        if not is_unit(unit):
            raise BadUnit(unit)
    ranked = {rank_of(unit): unit for unit in units}
    return tuple([ranked[at] for at in sorted([int(at) for at in ranked])])


def units_text(units):
    """The text of the units, in order, each once."""
    ordered = in_order(units)
    return " , ".join(ordered) if ordered else "-"


def read_units(text):
    """The tuple of units with this text."""
    units, words = take_units(words_of(text))
    words.end()
    return units


def take_units(words):
    """The tuple of units that the next words tell, and the words behind them."""
    if words.peek() == "-":
        return (), words.behind()
    return take_some_units(words, ())


def take_some_units(words, taken):
    """The tuple of units, at least one and none of those taken, and the words behind them."""
    unit, words = take_unit(words, -1, taken)
    units = [unit]
    while words.peek() == ",":
        unit, words = take_unit(words.behind(), rank_of(unit), taken)
        units.append(unit)
    return tuple(units), words


def take_unit(words, after, taken):
    """The unit that the next words tell, and the words behind it.

    Its last word must bring it behind the rank after, and to none taken.
    """
    # The journal has one word alone, and is behind no other unit.
    names = [name for name in UNIT_WORDS if NUMBERS[name] > 0 or can_stand(name, [], after, taken)]
    word, words = words.take_one(names)
    numbers = []
    for _ in range(NUMBERS[word]):
        if not words.is_at_whole() or not can_stand(word, [*numbers, whole_of(words.peek())], after, taken):
            words.refuse()
        number, words = words.take_whole()
        numbers.append(number)
    return text_of(word, numbers), words


def can_stand(word, numbers, after, taken):
    """Whether the last word can stand, the unit, if it is whole, having a rank above after and being none taken."""
    if numbers and not is_number(word, len(numbers) - 1, numbers[-1]):
        return False
    if len(numbers) < NUMBERS[word]:
        return True
    return rank(word, numbers) > after and text_of(word, numbers) not in taken


def text_of(word, numbers):
    """The text of the unit of a word and numbers."""
    return " ".join([word, *[str(number) for number in numbers]])
