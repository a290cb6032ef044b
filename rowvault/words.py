"""Texts: integers as they are written, and the words of a line, read one after another."""

from rowvault.errors import BadText

# Python refuses to change more than 4300 digits at once, so long numbers are changed in pieces.
PIECE = 60


def whole_text(number):
    """The text of an integer of any size."""
    rest = abs(number)
    pieces = []
    while rest >= 10 ** 60:
        rest, piece = divmod(rest, 10 ** 60)
        pieces.append(str(piece).zfill(PIECE))
    pieces.append(str(rest))
    digits = "".join(pieces[::-1])
    return f"-{digits}" if number < 0 else digits


def is_whole_text(word):
    """Whether a text is that of an integer, just as str writes it."""
    digits = word[1:] if word.startswith("-") else word
    if not digits.isascii() or not digits.isdigit():
        return False
    return word == "0" or not digits.startswith("0")


def whole_of(word):
    """The integer of which this is the text."""
    digits = word[1:] if word.startswith("-") else word
    first = len(digits) % PIECE
    number = int(digits[:first]) if first > 0 else 0
    for at in range(first, len(digits), PIECE):
        number = number * 10 ** 60 + int(digits[at:at + PIECE])
    return -number if word.startswith("-") else number


def words_of(text, line=0):
    """The words of a line, parted at single spaces; raise BadText for what is no string."""
    if not isinstance(text, str):
        raise BadText(0, 0)
    return Words(tuple(text.split(" ")), 0, line)


class Words:
    """The words of a line from an index on.

    What cannot stand and what is missing raise the same error: behind the last word the index
    is the number of the words. It never changes: what is taken comes with the words behind it.
    """

    def __init__(self, words, at, line):
        self.words = words
        self.at = at
        self.line = line

    def refuse(self):
        """Raise the error that the next word cannot stand, or is missing."""
        raise BadText(self.line, self.at)

    def peek(self):
        """The next word, or None behind the last one."""
        return self.words[self.at] if self.at < len(self.words) else None

    def behind(self):
        """The words behind the next one."""
        if self.peek() is None:
            self.refuse()
        return Words(self.words, self.at + 1, self.line)

    def behind_one(self, choices):
        """The words behind the next one, which must be one of the choices."""
        if self.peek() not in choices:
            self.refuse()
        return self.behind()

    def take_one(self, choices):
        """The next word, which must be one of the choices, and the words behind it."""
        return self.peek(), self.behind_one(choices)

    def is_at_whole(self):
        """Whether there is a next word, and it is an integer."""
        word = self.peek()
        return word is not None and is_whole_text(word)

    def take_whole(self):
        """The integer that the next word tells, and the words behind it."""
        if not self.is_at_whole():
            self.refuse()
        return whole_of(self.peek()), self.behind()

    def take_from(self, low, high):
        """The integer from low to high that the next word tells, and the words behind it."""
        if not self.is_at_whole() or not low <= whole_of(self.peek()) <= high:
            self.refuse()
        return whole_of(self.peek()), self.behind()

    def end(self):
        """Raise the error of the next word if one is left."""
        if self.at < len(self.words):
            self.refuse()
