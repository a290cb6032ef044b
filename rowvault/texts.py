"""Texts of things: a line with a word for the thing, and lines that tell it."""

from rowvault.books import Book
from rowvault.errors import BadKind
from rowvault.layouts import Layout
from rowvault.orders import Order
from rowvault.parts import Part
from rowvault.plans import Plan
from rowvault.questions import Question
from rowvault.shapes import Shape
from rowvault.tables import Table
from rowvault.vaults import Vault
from rowvault.words import whole_text


def write(thing):
    """The text of a thing."""
    word = word_for(thing)
    if word is None:
        raise BadKind("thing")
    if word == "vault":
        return vault_text(thing)
    if word in ("part", "table", "question", "book"):
        return f"{word}\n{str(thing.shape)}\n{str(thing)}"
    return f"{word}\n{str(thing)}"


def word_for(thing):
    """The word for any value that has a text, otherwise None."""
    if isinstance(thing, Vault):
        return "vault" if thing.torn is None else None
    if isinstance(thing, Shape):
        return "shape"
    if isinstance(thing, Order):
        return "order"
    if isinstance(thing, Plan):
        return "plan"
    if isinstance(thing, Layout):
        return "layout"
    return word_with_shape(thing)


def word_with_shape(thing):
    """The word for any value that has a shape and a text, otherwise None."""
    if isinstance(thing, Part):
        return "part"
    if isinstance(thing, Table):
        return "table"
    if isinstance(thing, Question):
        return "question"
    return "book" if isinstance(thing, Book) else None


def vault_text(vault):
    """The text of a vault that is not torn."""
    marks = vault.marks
    lines = ["vault", str(vault.layout)]
    for unit in vault.units_left:
        lines.append(" ".join(["unit", unit, ":", *[whole_text(answer) for answer in vault.read_unit(unit)]]))
    for name in sorted([str(name) for name in marks]):
        lines.append(f"mark {name} : {str(marks[name])}")
    return "\n".join(lines)
