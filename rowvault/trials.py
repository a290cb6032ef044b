"""Trials: what a vault keeps of itself while it is tried."""


class Kept:
    """What a vault was when a trial began, and what was kept ahead of it, if that was in a trial, too."""

    def __init__(self, vault, outer):
        self.layout = vault.layout
        self.held = vault._held
        self.teller = vault._teller
        self.log = vault._log
        self.words = vault._words
        self.tables = vault._tables
        self.tear = vault._tear
        self.outer = outer
