"""Coming in: since when a head rules its houses, and what a house cost against what it was worth."""

from oneroof.errors import NotRuled
from oneroof.owners import ruled, share
from oneroof.parts import Part, Purse
from oneroof.paths import cost
from oneroof.stakes import worth_of
from oneroof.states import plays
from oneroof.worlds import need_house, shares_of


class Coming:
    """How a house came in under the roof on a day."""

    def __init__(self, house, day, count, spent, basis, part):
        self.house = house
        self.day = day
        self.count = count
        self.spent = spent
        self.basis = basis
        self.part = part

    def surplus(self):
        return self.basis.minus(self.part)

    def step(self):
        return self.basis.minus(self.spent)

    def __eq__(self, other):
        return (
            isinstance(other, Coming)
            and self.house == other.house
            and self.day == other.day
            and self.count == other.count
            and self.spent == other.spent
            and self.basis == other.basis
            and self.part == other.part
        )

    def __repr__(self):
        return f"Coming({self.house}, day {self.day})"


def spells(world, deeds, head, day):
    """The since-days of the head on the day."""
    need_house(world, head)
    return since_by_day(plays(world, deeds, day), head)[day]


def since_by_day(states, head):
    """The since-days of the head on each day, by the states of all days from the first one on."""
    told = []
    since = {}
    for state in states:
        # A house that was not ruled the day before begins anew, though it was ruled earlier.
        since = {house: since.get(house, state.day) for house, votes in ruled(state, head)}
        told.append(since)
    return told


def coming(world, deeds, head, house, day):
    """How the house that the head rules came in on its since-day."""
    need_house(world, head)
    need_house(world, house)
    states = plays(world, deeds, day)
    sinces = since_by_day(states, head)
    if house == head or house not in sinces[day]:
        raise NotRuled(house)
    entry = sinces[day][house]
    state, since = states[entry], sinces[entry]
    count = sum([many for many, path in _lots_under(state, since, house)])
    spent = Purse()
    for many, path in _lots_under(state, since, house):
        spent = spent.plus(cost(many, path, since=since))
    price = _last_price(deeds, since, house, entry)
    basis = spent if price is None else price.times(Part(count))
    part = worth_of(state, since, house).times(share(state, list(since), house))
    return Coming(house, entry, count, spent, basis, part)


def _lots_under(state, since, house):
    """The house's shares that lie under the roof: (count, path)."""
    return [lot for holder in since for lot in state.pieces(holder, shares_of(house))]


def _last_price(deeds, since, house, day):
    """The price of one share, counted as at the day's end, by the last getting on the day; or None."""
    price = None
    for number, deed in sorted(deeds, key=_number_of):
        if deed[1] == day and _gets_shares(deed, since, house):
            count, coin, paid = deed[-3:]
            price = Purse([(coin, Part(paid, count))])
        if deed[:3] == ("split", day, house) and price is not None:
            price = price.times(Part(1, deed[3]))
    return price


def _number_of(row):
    return row[0]


def _gets_shares(deed, since, house):
    """Whether by the deed a house under the roof gets shares of the house."""
    return deed[0] in ("get", "hand") and deed[-4] == shares_of(house) and deed[-5] in since
