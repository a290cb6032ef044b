"""Trials: blocks behind which a vault is as it was."""


class Kept:
    """What a vault was when a trial began, and what the trial had kept ahead of it."""

    def __init__(self, vault, outer):
        self.layout = vault.layout
        self.held = vault._held
        self.teller = vault._teller
        self.log = vault._log
        self.words = vault._words
        self.tables = vault._tables
        self.tear = vault._tear
        self.outer = outer


class Trial:
    """A block behind which a vault is in all as it was."""

    def __init__(self, vault):
        self.vault = vault
        self.kept = None

    def __enter__(self):
        self.kept = Kept(self.vault, self.kept)
        return self.vault

    def __exit__(self, kind, value, trace):
        self.vault.layout = self.kept.layout
        self.vault._held = self.kept.held
        self.vault._teller = self.kept.teller
        self.vault._log = self.kept.log
        self.vault._words = self.kept.words
        self.vault._tables = self.kept.tables
        self.vault._tear = self.kept.tear
        self.kept = self.kept.outer
