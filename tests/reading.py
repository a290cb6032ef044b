"""Texts: which words can stand is reckoned from the set of all texts, word by word."""

import itertools
import re

from rowvault.errors import BadText

WHOLE = re.compile(r"-?[1-9][0-9]*|0")


def numbers_at(turn):
    """A change of words: N for an integer other than 0 at this index of each four, others as they are."""
    def change(words):
        return tuple("N" if at % 4 == turn and WHOLE.fullmatch(word) and word != "0" else word
                     for at, word in enumerate(words))
    return change


def prefixes_of(texts):
    """All beginnings of some texts, as tuples of words."""
    return {tuple(text[:k]) for text in texts for k in range(len(text) + 1)}


def changed(words, vocabulary):
    """Texts of other words: some left out, put in, doubled, exchanged."""
    for k in range(len(words) + 1):
        yield words[:k]
        for word in vocabulary:
            yield words[:k] + [word] + words[k:]
            yield words[:k] + [word] + words[k + 1:]
    for k in range(len(words)):
        yield words[:k] + words[k + 1:]
        yield words[:k] + [words[k]] + words[k:]
    for j, k in itertools.combinations(range(len(words)), 2):
        other = list(words)
        other[j], other[k] = other[k], other[j]
        yield other


def first_wrong(words, prefixes, wholes, norm):
    """The index of the first word that cannot stand, or the number of the words; None for a right text."""
    told = norm(words)
    for k in range(len(told)):
        if told[:k + 1] not in prefixes:
            return k
    return None if told in wholes else len(told)


def no_error(words):
    return None


def check_reads(case, read, texts, vocabulary, wholes=None, more=(), norm=tuple, refused=no_error):
    """Each change of each text is read, or raises BadText with the word that is reckoned.

    wholes are all texts, as tuples of words, more are beginnings that can stand besides; refused tells
    the error with which the class refuses a right text.
    """
    if wholes is None:
        wholes = {norm(text.split(" ")) for text in texts}
    prefixes = prefixes_of(wholes) | set(more)
    seen = set()
    for text in texts:
        for words in [text.split(" "), *changed(text.split(" "), vocabulary)]:
            key = " ".join(words)
            if key in seen:
                continue
            seen.add(key)
            # A text without words has one empty word; a word that was put in can have a space.
            told = key.split(" ")
            wrong = first_wrong(told, prefixes, wholes, norm)
            if wrong is not None:
                case.raises(BadText(0, wrong), read, key)
            elif refused(told) is not None:
                case.raises(refused(told), read, key)
            else:
                case.assertEqual(str(read(key)), key)
    return len(seen)
