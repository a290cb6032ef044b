"""Whether papers about torn vaults are right; nothing is searched."""

from rowvault.crashes import vectors_behind
from rowvault.errors import BadVault
from rowvault.look_orders import are_alike_but, is_pair
from rowvault.vaults import Unhealed, Vault


def shows_unhealed(vault, value):
    """Whether any value is a right Unhealed of a torn vault."""
    if not isinstance(vault, Vault):
        raise BadVault("vault")
    tear = vault.torn
    if tear is None or not isinstance(value, Unhealed):
        return False
    layout = vault.layout
    if not is_pair(layout, value.one) or not is_pair(layout, value.other):
        return False
    vectors = vectors_behind(layout, tear.place, tear.journal, vault.writes_of(tear))
    lost = [unit for unit in vectors if not vault.holds(unit)]
    return are_alike_but(layout, vectors, lost, value.one, value.other) and value.one[1] != value.other[1]
