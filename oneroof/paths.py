"""Paths of pieces, and what pieces cost by them.

A path is a tuple of links, the eldest first, one for each deed that brought the pieces from hand
to hand; a link is (number, day, giver, taker, coin, price, count).
"""

from oneroof.parts import Part, Purse


def inner(link, since):
    """Whether the link's giver and taker both were under the roof on its day."""
    return _was_under(link[2], link[1], since) and _was_under(link[3], link[1], since)


def cut(path, since):
    return tuple([link for link in path if not inner(link, since)])


def cost(count, path, *, since=None):
    """What so many pieces cost the roof; without since-days, what they cost their holder."""
    return _cost_by_last(count, cut(path, {} if since is None else since))


def fresh(count, path, since):
    """What the giver of each fresh link has gained by it, the eldest link first."""
    gains = []
    for at in range(_first_fresh(path, since), len(path)):
        gained = _cost_by_last(count, path[:at + 1]).minus(_cost_by_last(count, path[:at]))
        gains.append((path[at][2], gained))
    return gains


def _was_under(house, day, since):
    return house in since and since[house] <= day


def _first_fresh(path, since):
    """Where the fresh links begin; the path's length where it has none."""
    at = len(path)
    while at > 0 and inner(path[at - 1], since):
        at -= 1
    return at


def _cost_by_last(count, links):
    """The price of so many pieces by the last link; nothing where no link tells a price."""
    if len(links) == 0:
        return Purse()
    coin, price, many = links[-1][4:]
    return Purse([(coin, Part(count * price, many))])
