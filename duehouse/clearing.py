"""Clearing: transfers between offices, so that the person is asked back no more than is owed in sum."""

from duehouse.courses import check_office
from duehouse.ordering import ascending


def are_opposed(balances):
    """Whether two balances have opposite signs."""
    amounts = list(balances.values())
    return any([amount > 0 for amount in amounts]) and any([amount < 0 for amount in amounts])


def transfers_of(balances):
    """All transfers that can be made next, ascending."""
    offices = ascending(list(balances))
    transfers = []
    for giver in offices:
        for taker in offices:
            given, lacking = balances[giver], -balances[taker]
            if given > 0 and lacking > 0:
                transfers.append((giver, taker, given if given < lacking else lacking))
    return transfers


def first_list(balances, many):
    """The first list of so many transfers behind which no balances are opposed, or None."""
    if many == 0:
        return None if are_opposed(balances) else []
    for transfer in transfers_of(balances):
        further = first_list(made(balances, [transfer]), many - 1)
        if further is not None:
            return [transfer, *further]
    return None


def cleared(balances):
    """The first one of the shortest lists of transfers behind which no balances are opposed."""
    many = 0
    found = first_list(balances, many)
    # Each transfer sets a balance to 0, so there is always such a list.
    while found is None:
        many += 1
        found = first_list(balances, many)
    return found


def made(balances, transfers):
    """The balances behind these transfers."""
    offices = list(balances)
    for giver, taker, _ in transfers:
        check_office(offices, giver)
        check_office(offices, taker)
    behind = {office: balances[office] for office in balances}
    for giver, taker, amount in transfers:
        behind[giver] = behind[giver] - amount
        behind[taker] = behind[taker] + amount
    return behind
