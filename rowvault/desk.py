"""Desks: a shape, kinds, a book and a vault, led by lines."""

from rowvault.asks import NEEDS, take_request
from rowvault.books import Book
from rowvault.errors import BadLine, BadText, VaultError
from rowvault.kinds import Kind
from rowvault.layouts import Layout
from rowvault.losses import rebuilt, strength
from rowvault.orders import Order, judge_order
from rowvault.questions import Question
from rowvault.readings import musts, partings, readings
from rowvault.shapes import Shape
from rowvault.told import told
from rowvault.units import units_text
from rowvault.vaults import Vault
from rowvault.words import whole_text, words_of


class Desk:
    """What lines have told."""

    def __init__(self):
        self._shape = None
        self._kinds = []
        self._book = None
        self._vault = None

    def __call__(self, line):
        return self.say(line)

    def run(self, *lines):
        """The list of the answers to lines; behind one that is of no form the desk is as it was."""
        kept = (self._shape, self._kinds, self._book, None if self._vault is None else self._vault.twin())
        try:
            return [self.say(line) for line in lines]
        except BadLine:
            self._shape, self._kinds, self._book, self._vault = kept
            raise

    def say(self, line):
        """The answer to a line."""
        request = request_of(line)
        need = NEEDS[request[0]]
        if need != "" and self._shape is None:
            return "no shape"
        if need == "vault" and self._vault is None:
            return "no vault"
        try:
            return self.answer(request)
        except VaultError as error:
            return error.refusal()

    def answer(self, request):
        """The answer to a request."""
        word = request[0]
        if word == "shape":
            return self.set_shape(Shape(request[1], request[2]))
        if word == "kind":
            return self.set_kind(Kind.read(request[1]))
        if word == "question":
            self._book = self._book.with_question(request[1], Question.read(request[2], self._shape))
            return "ok"
        if word == "names":
            return " ".join(list(self._book)) if len(self._book) > 0 else "-"
        if NEEDS[word] == "vault":
            return self.of_vault(request)
        if word == "open":
            self._vault = Vault(self.layout_now())
            return "ok"
        if word in ("told", "readings", "partings", "musts"):
            return self.of_question(request, self._book[request[1]])
        return self.of_layout(request)

    def set_shape(self, shape):
        """Begin anew with a shape."""
        self._shape = shape
        self._kinds = []
        self._book = Book(shape)
        self._vault = None
        return "ok"

    def set_kind(self, kind):
        """Take a kind, too, or in the place of the one of its class."""
        self._kinds = [*[other for other in self._kinds if other.WORD != kind.WORD], kind]
        self._vault = None
        return "ok"

    def layout_now(self):
        """The layout of the kinds on the shape."""
        kinds = self._kinds
        return Layout(self._shape, *kinds)

    def of_vault(self, request):
        """What the vault answers."""
        word = request[0]
        if word == "ask":
            return whole_text(self._vault.ask(self._book[request[1]]))
        if word == "put":
            self._vault[request[1]] = request[2]
        elif word == "lose":
            self._vault.lose(request[1])
        elif word == "bring":
            self._vault.bring(request[1])
        else:
            self._vault.undo()
        return "ok"

    def of_question(self, request, question):
        """What the layout answers about a question."""
        layout = self.layout_now()
        if request[0] == "told":
            return "told" if told(layout, request[2], question) else "parted"
        if request[0] == "musts":
            return units_text(musts(layout, question))
        lots = list(readings(layout, question)) if request[0] == "readings" else list(partings(layout, question))
        return " ; ".join([units_text(lot) for lot in lots]) if lots != [] else "none"

    def of_layout(self, request):
        """What the layout answers."""
        layout = self.layout_now()
        if request[0] == "units":
            return units_text(layout.units)
        if request[0] == "strength":
            return str(strength(layout).many)
        if request[0] == "rebuilt":
            paper = rebuilt(layout, request[1])
            return "rebuilt" if paper else f"lacking {paper.unit} {paper.index}"
        words = request[2]
        paper = judge_order(layout, Order(*words), request[1])
        if paper:
            return "safe"
        key, day = paper.place
        return f"unsafe {key} {day} {paper.moment} {units_text(paper.lost)}"


def request_of(line):
    """The request that a line, any value, tells."""
    if not isinstance(line, str):
        raise BadLine(0)
    try:
        return take_request(words_of(line))
    except BadText as error:
        raise BadLine(error.word) from None
