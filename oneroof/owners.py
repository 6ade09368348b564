"""Who rules whom, and who holds how much of whom, at a state."""

from oneroof.parts import Part
from oneroof.worlds import shares_of


def ruled(state, head):
    """The houses that the head rules, with their votes, in the order in which they come."""
    told = [(head, 0)]
    coming = _next_ruled(state, told)
    while coming is not None:
        told.append(coming)
        coming = _next_ruled(state, told)
    return told


def share(state, owners, house):
    """The part of the house's shares that the owners hold together."""
    return Part(_votes(state, owners, house), state.made(house))


def chains(state, top, low):
    """All rows of houses from top to low, each of which holds shares of the next one."""
    if top == low:
        return [(top,)]
    # Ends because no state has houses that hold one another in a ring.
    return sorted([(top,) + chain for middle in state.owned(top) for chain in chains(state, middle, low)])


def by_chains(state, top, low):
    """What the one holds of the other: the products of the shares along each chain, summed."""
    total = Part(0)
    for chain in chains(state, top, low):
        total = total.plus(_share_along(state, chain))
    return total


def _next_ruled(state, told):
    """The first house by name that comes behind those told, with its votes, or None."""
    names = [name for name, many in told]
    for house in state.houses():
        votes = _votes(state, names, house)
        if house not in names and 2 * votes > state.made(house):
            return house, votes
    return None


def _votes(state, owners, house):
    return sum([state.many(owner, shares_of(house)) for owner in sorted(set(owners))])


def _share_along(state, chain):
    held = Part(1)
    for owner, house in zip(chain, chain[1:]):
        held = held.times(share(state, [owner], house))
    return held
