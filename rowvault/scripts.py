"""Scripts: rows of lines, each of which does something with a vault."""

from rowvault.checks import is_whole_from
from rowvault.deeds import deed_of
from rowvault.errors import BadCount, BadText, BadVault, VaultError
from rowvault.layouts import Layout
from rowvault.shapes import Shape
from rowvault.units import units_text
from rowvault.vaults import Vault


class Script:
    """Lines, and the deeds that they tell."""

    def __init__(self, shape, *lines):
        if not isinstance(shape, Shape):
            raise BadVault("shape")
        self.deeds = tuple([deed_of(shape, line, at) for at, line in enumerate(lines)])
        self.shape = shape
        self.lines = lines

    def without(self, n):
        """The script without the line n."""
        self.check_line(n)
        lines = [*self.lines[:n], *self.lines[n + 1:]]
        return Script(self.shape, *lines)

    def check_line(self, n):
        """Raise BadCount for what is no index of a line."""
        if not is_whole_from(n, 0, len(self.lines) - 1):
            raise BadCount(n)

    def __len__(self):
        return len(self.lines)

    def __iter__(self):
        return iter(self.lines)

    def __getitem__(self, at):
        self.check_line(at)
        return self.lines[at]

    def __add__(self, other):
        if not is_script_of(other, self.shape):
            raise BadVault("other")
        lines = [*self.lines, *other.lines]
        return Script(self.shape, *lines)

    def __eq__(self, other):
        return isinstance(other, Script) and self.shape == other.shape and self.lines == other.lines

    def __str__(self):
        if self.lines == ():
            return "-"
        return "\n".join(self.lines)

    @classmethod
    def read(cls, text, shape):
        """The script with this text."""
        if not isinstance(shape, Shape):
            raise BadVault("shape")
        if not isinstance(text, str):
            raise BadText(0, 0)
        lines = [] if text == "-" else text.split("\n")
        return cls(shape, *lines)


def is_script_of(value, shape):
    """Whether any value is a script of this shape."""
    return isinstance(value, Script) and value.shape == shape


def play(script, vault):
    """The tuple of the outcomes of the lines, done one after another."""
    if not isinstance(script, Script):
        raise BadVault("script")
    if not isinstance(vault, Vault) or vault.layout.shape != script.shape:
        raise BadVault("vault")
    return tuple([outcome(vault, deed) for deed in script.deeds])


def outcome(vault, deed):
    """The outcome of a deed on a vault, or on a course, which does what a vault does."""
    try:
        return done(vault, deed)
    except VaultError as error:
        return error.refusal()


def done(vault, deed):
    """What a deed on a vault tells, `done` if it tells nothing."""
    word = deed[0]
    if word in ("recover", "heal"):
        return vault.recover() if word == "recover" else vault.heal()
    if word == "undo":
        return vault.undo()
    if word == "back":
        return units_text(vault.bring_back())
    if word == "ask":
        return vault.ask(deed[1])
    if word == "asked":
        return vault.ask_at(deed[1], deed[2])
    do_quietly(vault, deed)
    return "done"


def do_quietly(vault, deed):
    """A deed that tells nothing."""
    word = deed[0]
    if word == "put":
        vault[deed[1]] = deed[2]
    elif word == "add":
        vault.add(deed[1], deed[2])
    elif word == "lose":
        units = deed[1]
        vault.lose(*units)
    elif word == "bring":
        vault.bring(deed[1])
    elif word == "mark":
        vault.mark(deed[1])
    elif word == "lay":
        kinds = deed[1]
        vault.exchange(Layout(vault.layout.shape, *kinds))
    else:
        vault.crash(deed[1], deed[2], deed[3], deed[4], deed[5])
