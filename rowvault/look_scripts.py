"""Whether papers about scripts are right: they are played on vaults with the table told; nothing is searched."""

from rowvault.checks import is_whole, is_whole_from
from rowvault.effects import OtherAnswers, OtherEnd, Shaken, check_steady, check_two
from rowvault.errors import VaultError
from rowvault.look_readings import is_lot_of
from rowvault.scripts import outcome, play
from rowvault.storms import units_at
from rowvault.tables import is_table_of
from rowvault.vaults import Vault


def shows_other_end(layout, one, other, value):
    """Whether any value is a right OtherEnd of two scripts."""
    check_two(layout, one, other)
    if not isinstance(value, OtherEnd) or not is_table_of(value.table, layout.shape):
        return False
    vaults = [Vault(layout, value.table), Vault(layout, value.table)]
    play(one, vaults[0])
    play(other, vaults[1])
    return vaults[0] != vaults[1]


def shows_other_answers(layout, one, other, value):
    """Whether any value is a right OtherAnswers of two scripts."""
    check_two(layout, one, other)
    if not isinstance(value, OtherAnswers) or not is_table_of(value.table, layout.shape):
        return False
    return played_answers(layout, one, value.table) != played_answers(layout, other, value.table)


def shows_shaken(layout, script, order, many, value, journal="none"):
    """Whether any value is a right Shaken of a run."""
    check_steady(layout, script, order, many, journal)
    if not isinstance(value, Shaken) or not is_whole_from(value.line, 0, len(script.lines) - 1):
        return False
    vault = Vault(layout)
    for deed in script.deeds[:value.line]:
        outcome(vault, deed)
        if not order.fits(vault.layout):
            return False
    deed = script.deeds[value.line]
    return deed[0] == "put" and is_shaken(vault, order, deed, many, value, journal)


def played_answers(layout, script, table):
    """The list of the answers of a script that is played on a vault with a table."""
    return [one for one in play(script, Vault(layout, table)) if is_whole(one)]


def is_shaken(vault, order, deed, many, value, journal):
    """Whether the vault, in which a put is cut off, cannot be recovered behind the loss."""
    writes = order.writes(vault.layout, deed[1], journal)
    if not is_whole_from(value.moment, 0, len(writes)):
        return False
    units = units_at(vault.units_left, writes[:value.moment])
    if not is_lot_of(value.lost, units) or len(value.lost) != min(int(many), len(units)):
        return False
    lost = value.lost
    if deed[1] not in vault:
        # The put is refused, as it is while the vault is torn.
        return False
    vault.crash(order, deed[1], deed[2], value.moment, journal)
    vault.lose(*lost)
    return is_refused(vault)


def is_refused(vault):
    """Whether a torn vault cannot be recovered."""
    try:
        vault.recover()
    except VaultError:
        return True
    return False
