"""Whose it is: what the houses under a roof are worth, and the parts of the head and of strangers.

The since-days are those of the houses under the roof.
"""

from oneroof.owners import share
from oneroof.parts import Part
from oneroof.paths import cost, fresh
from oneroof.worlds import house_of


def own_worth(state, since, house):
    """What the house has itself, without its shares of houses under the roof."""
    worth = state.purse(house)
    for other in state.houses():
        worth = worth.plus(state.claim(house, other))
    for count, path in _counted_lots(state, since, house):
        worth = worth.plus(cost(count, path))
    for gained in _gained_inside(state, since, house):
        worth = worth.minus(gained)
    return worth


def worth_of(state, since, house):
    """The house's own worth, and its share of the worth of each house under the roof."""
    worths = {}
    _find_worth(state, since, house, worths)
    return worths[house]


def parts_of(state, since, head):
    """The head's part, and strangers' part of each other house under the roof."""
    worths = {}
    for house in since:
        _find_worth(state, since, house, worths)
    roof = sorted(since)
    parts = [(head, worths[head])]
    for house in roof:
        if house != head:
            of_strangers = Part(1).minus(share(state, roof, house))
            parts.append((house, worths[house].times(of_strangers)))
    return parts


def _counted_lots(state, since, house):
    """The house's pieces of goods, and of shares of houses that are not under the roof."""
    return [(count, path) for thing, count, path in state.all_pieces(house) if house_of(thing) not in since]


def _gained_inside(state, since, house):
    """What the house gained by handing on pieces that still lie under the roof."""
    return [
        gained
        for holder in since
        for count, path in _counted_lots(state, since, holder)
        for giver, gained in fresh(count, path, since) if giver == house
    ]


def _find_worth(state, since, house, worths):
    """Finds the worth of the house, and ahead of it of each one on which it rests, once each."""
    if house in worths:
        return
    worth = own_worth(state, since, house)
    for other in state.owned(house):
        if other in since:
            _find_worth(state, since, other, worths)
            worth = worth.plus(worths[other].times(share(state, [house], other)))
    worths[house] = worth
