"""Which values are integers and names."""

RESERVED = (
    "days", "keys", "every", "leads", "sizes", "blocks", "pages", "cells", "buckets", "stripes",
    "block", "page", "cell", "bucket", "parity", "journal", "read", "given", "none", "order",
)
MOST_LETTERS = 8


def is_whole(value):
    """Whether any value is an integer; a bool is none."""
    return isinstance(value, int) and not isinstance(value, bool)


def is_whole_from(value, low, high):
    """Whether any value is an integer from low to high."""
    return is_whole(value) and low <= value <= high


def is_name(value):
    """Whether any value is a name."""
    if not isinstance(value, str) or not 1 <= len(value) <= MOST_LETTERS:
        return False
    letters = value.isascii() and value.isalpha() and value.islower()
    return letters and value not in RESERVED
