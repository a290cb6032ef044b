"""The texts of plans, read into steps: each plan stands behind those of which it is made.

Texts can have many brackets within one another, so they are read without a call for each bracket.
"""

from rowvault.units import take_unit
from rowvault.words import whole_of

MOST_INDEX = 35
SIGNS = ("+", "-", "*", "//")


def take_steps(words):
    """The list of the steps of the plan that the next words tell, and the words behind it."""
    steps = []
    # For each open bracket the sign that is read in it, at first none.
    signs = []
    while True:
        word, words = words.take_one(["read", "given", "("])
        if word == "(":
            signs.append("")
            continue
        leaf, words = take_leaf(words, word)
        steps.append(leaf)
        while signs:
            sign = signs.pop()
            if sign == "":
                sign, words = words.take_one(SIGNS)
                if sign in ("+", "-"):
                    signs.append(sign)
                    break
                number, words = take_number(words, sign)
                steps.append((sign, number))
            else:
                steps.append((sign,))
            words = words.behind_one([")"])
        else:
            return steps, words


def take_leaf(words, word):
    """The step of a read or of an integer, behind its word, and the words behind it."""
    if word == "given":
        value, words = words.take_whole()
        return (word, value), words
    unit, words = take_unit(words, -1, ())
    index, words = words.take_from(0, MOST_INDEX)
    return (word, unit, index), words


def take_number(words, sign):
    """The integer that the next word tells behind a sign, and the words behind it."""
    if sign == "//" and words.is_at_whole() and whole_of(words.peek()) < 1:
        words.refuse()
    return words.take_whole()
