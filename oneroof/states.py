"""How the days go: deeds are walked, and the state behind them is told."""

from oneroof.errors import Ring, Short
from oneroof.owners import chains
from oneroof.parts import Part, Purse
from oneroof.worlds import STRANGERS, house_of, need_day, shares_of


class State:
    """How all stands at the end of a day; it changes only while play makes it."""

    def __init__(self, world, day):
        self.day = day
        self._made = dict(world.house_rows())
        self._rates = dict(world.coin_rows())
        # By house and thing its pieces as (count, path), the eldest first.
        self._lots = {}
        # By house all money that it had or spent: (number, day, kind, partner, thing, coin, amount).
        self._moves = {house: [] for house in self._made}
        # By house all pieces that it sold: (day, partner, thing, count, path).
        self._sold = {house: [] for house in self._made}

    def purse(self, house):
        return _purse_of(self._moves[house])

    def claim(self, house, other):
        """What the house claims of the other one; below nought where it owes."""
        # What was lent went out of the purse, so the claim is the money's other side.
        lent = [move for move in self._moves[house] if move[2] == "lend" and move[3] == other]
        return _purse_of(lent).times(Part(-1))

    def pieces(self, house, thing):
        return list(self._lots.get((house, thing), []))

    def many(self, house, thing):
        return sum([count for count, path in self.pieces(house, thing)])

    def made(self, house):
        return self._made[house]

    def free(self, house):
        """How many of the house's shares strangers hold."""
        return self._made[house] - sum([self.many(holder, shares_of(house)) for holder in self._made])

    def rate(self, coin):
        return self._rates[coin]

    def houses(self):
        return sorted(self._made)

    def all_pieces(self, house):
        """The house's pieces of all things: (thing, count, path)."""
        return [
            (thing, count, path)
            for (holder, thing), lots in self._lots.items() if holder == house
            for count, path in lots
        ]

    def owned(self, house):
        """The houses of which the house holds shares."""
        return [other for other in self.houses() if self.many(house, shares_of(other)) > 0]

    def moves_of_day(self, house):
        """What the house had and spent on the state's day: (kind, partner, thing, coin, amount)."""
        return [move[2:] for move in self._moves[house] if move[1] == self.day]

    def moves_of_coin(self, house, coin):
        """What the house had and spent of the coin since the first day: (number, amount)."""
        return [(move[0], move[6]) for move in self._moves[house] if move[5] == coin]

    def sold_of_day(self, house):
        """What pieces the house sold on the state's day: (partner, thing, count, path)."""
        return [row[1:] for row in self._sold[house] if row[0] == self.day]


def _purse_of(moves):
    return Purse([(coin, Part(amount)) for number, day, kind, partner, thing, coin, amount in moves])


def _move_money(state, number, deed, payer, payee, coin, amount, thing=""):
    """Writes down on both sides what one pays to the other; strangers keep no purse."""
    kind, day = deed[:2]
    if payer != STRANGERS:
        state._moves[payer].append((number, day, kind, payee, thing, coin, -amount))
    if payee != STRANGERS:
        state._moves[payee].append((number, day, kind, payer, thing, coin, amount))


def _do_rate(state, number, deed):
    coin, rate = deed[2:]
    state._rates[coin] = rate


def _do_with_strangers(state, number, deed):
    house, coin, amount = deed[2:]
    _move_money(state, number, deed, STRANGERS, house, coin, amount)


def _do_between_houses(state, number, deed):
    payer, payee, coin, amount = deed[2:]
    _move_money(state, number, deed, payer, payee, coin, amount)


def _do_get(state, number, deed):
    _trade(state, number, deed, STRANGERS, deed[2])


def _do_sell(state, number, deed):
    _trade(state, number, deed, deed[2], STRANGERS)


def _do_hand(state, number, deed):
    _trade(state, number, deed, deed[2], deed[3])


def _do_split(state, number, deed):
    house, times = deed[2:]
    thing = shares_of(house)
    state._made[house] = state._made[house] * times
    for holder in state.houses():
        lots = state.pieces(holder, thing)
        state._lots[holder, thing] = [(count * times, _split_path(path, times)) for count, path in lots]


def _split_path(path, times):
    return tuple([link[:-1] + (link[-1] * times,) for link in path])


def _do_pay(state, number, deed):
    house, coin, per = deed[2:]
    for holder in state.houses():
        _move_money(state, number, deed, house, holder, coin, per * state.many(holder, shares_of(house)))
    _move_money(state, number, deed, house, STRANGERS, coin, per * state.free(house))


def _trade(state, number, deed, giver, taker):
    """Pieces go from giver to taker, and their price the other way."""
    day = deed[1]
    thing, count, coin, price = deed[-4:]
    if not _can_give(state, giver, thing, count):
        raise Short(number)
    given = _take(state, giver, thing, count)
    if giver != STRANGERS:
        rows = [(day, taker, thing, many, path) for many, path in given]
        state._sold[giver].extend(rows)
    if taker != STRANGERS:
        _need_no_ring(state, number, taker, thing)
        link = (number, day, giver, taker, coin, price, count)
        # Each deed's link is its own, so no two of a house's lots of a thing have one path.
        state._lots[taker, thing] = state.pieces(taker, thing) + [(many, path + (link,)) for many, path in given]
    _move_money(state, number, deed, taker, giver, coin, price, thing)


def _can_give(state, giver, thing, count):
    if giver != STRANGERS:
        return state.many(giver, thing) >= count
    house = house_of(thing)
    return house is None or state.free(house) >= count


def _take(state, giver, thing, count):
    """Takes so many pieces from the giver, the eldest first; strangers' pieces have no path yet."""
    if giver == STRANGERS:
        return [(count, ())]
    given = []
    kept = []
    left = count
    for many, path in state.pieces(giver, thing):
        part = min(many, left)
        left -= part
        if part > 0:
            given.append((part, path))
        if many > part:
            kept.append((many - part, path))
    state._lots[giver, thing] = kept
    return given


def _need_no_ring(state, number, taker, thing):
    house = house_of(thing)
    if house is None:
        return
    closed = chains(state, house, taker)
    if len(closed) > 0:
        # Each chain ends in the taker, with which the ring begins.
        raise Ring(number, [taker] + list(closed[0][:-1]))


_ACTS = {
    "rate": _do_rate,
    "fund": _do_with_strangers,
    "gain": _do_with_strangers,
    "get": _do_get,
    "sell": _do_sell,
    "hand": _do_hand,
    "lend": _do_between_houses,
    "fee": _do_between_houses,
    "split": _do_split,
    "pay": _do_pay,
}


def play(world, deeds, day):
    """The state at the end of the day."""
    need_day(day)
    state = State(world, day)
    due = [row for row in deeds if row[1][1] <= day]
    for number, deed in sorted(due, key=_turn):
        act = _ACTS[deed[0]]
        act(state, number, deed)
    return state


def plays(world, deeds, day):
    """The states at the end of each day up to that one."""
    need_day(day)
    return [play(world, deeds, at) for at in range(day + 1)]


def _turn(row):
    """Days go ahead of numbers in the walk."""
    return row[1][1], row[0]
