"""Refusals: what is told of an error in the place of an answer."""


def refusal(error):
    """The text of an error that a line raised."""
    return f"refused {error.__class__.__name__}"
