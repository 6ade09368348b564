"""Sheets: by which deeds the money and the pieces of a thing came to what they are."""

from oneroof.parts import Purse
from oneroof.paths import cost, cut
from oneroof.states import play, plays
from oneroof.steps import since_by_day
from oneroof.worlds import need_coin, need_house, need_thing


def money_sheet(world, deeds, houses, coin, day):
    """By the number of each deed what it changed of the coin that the houses have together."""
    for house in houses:
        need_house(world, house)
    need_coin(world, coin)
    state = play(world, deeds, day)
    changes = {}
    for house in sorted(set(houses)):
        for number, amount in state.moves_of_coin(house, coin):
            changes[number] = changes.get(number, 0) + amount
    return [(number, changes[number]) for number in sorted(changes) if changes[number] != 0]


def fits(world, deeds, houses, coin, day, *, total, sheet):
    """Whether the sheet is the one of this money, and comes to the total."""
    true_sheet = money_sheet(world, deeds, houses, coin, day)
    return sheet == true_sheet and total == sum([amount for number, amount in true_sheet])


def thing_sheet(world, deeds, head, thing, day):
    """By the number of each deed how many pieces it brought under the head's roof, and their cost."""
    need_house(world, head)
    need_thing(world, thing)
    states = plays(world, deeds, day)
    since = since_by_day(states, head)[day]
    counts = {}
    costs = {}
    for house in since:
        for count, path in states[day].pieces(house, thing):
            number = cut(path, since)[-1][0]
            counts[number] = counts.get(number, 0) + count
            costs[number] = costs.get(number, Purse()).plus(cost(count, path, since=since))
    return [(number, counts[number], costs[number]) for number in sorted(counts)]
