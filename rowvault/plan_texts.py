"""The texts of plans, read into steps: each plan stands behind those of which it is made.

Texts can have many brackets within one another, so they are read without a call for each bracket.
"""

from rowvault.units import take_unit
from rowvault.words import whole_of

MOST_INDEX = 35
SIGNS = ("+", "-", "*", "//")


def take_steps(words):
    """The list of the steps of the plan that the next words tell."""
    steps = []
    # For each open bracket the sign that is read in it, at first none.
    signs = []
    while True:
        word = words.take_one(["read", "given", "("])
        if word == "(":
            signs.append("")
            continue
        steps.append(take_leaf(words, word))
        while signs:
            sign = signs.pop()
            if sign == "":
                sign = words.take_one(SIGNS)
                if sign in ("+", "-"):
                    signs.append(sign)
                    break
                steps.append((sign, take_number(words, sign)))
            else:
                steps.append((sign,))
            words.take_one([")"])
        else:
            return steps


def take_leaf(words, word):
    """The step of a read or of an integer, behind its word."""
    if word == "given":
        return word, words.take_whole()
    unit = take_unit(words, -1, ())
    return word, unit, words.take_from(0, MOST_INDEX)


def take_number(words, sign):
    """The integer that the next word tells behind a sign."""
    if sign == "//" and words.is_at_whole() and whole_of(words.peek()) < 1:
        words.refuse()
    return words.take_whole()
