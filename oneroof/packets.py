"""Packets: what houses under a roof have, and what they did on a day with all others."""

from oneroof.errors import Clash
from oneroof.parts import Part, Purse
from oneroof.paths import cost, cut
from oneroof.states import play
from oneroof.worlds import house_of, need_house

# The sum of a packet in which all money of a deed of that kind stands.
_SUM_BY_KIND = {"fund": "fund", "gain": "gain", "fee": "fees", "pay": "paid"}

# The kinds of deeds by which a house has the price of pieces.
_SELLING = ("sell", "hand")


class Packet:
    """What houses under a roof have and did, kept as two dicts so that packets add up.

    Sums are Purses by (name, partner, thing), lots are counts by (name, partner, thing, path), all
    in sorted order; partner and thing are "" where there is none. What is between houses under
    the roof is left out where a packet is made, and nowhere else.
    """

    def __init__(self, day, since, sum_rows, lot_rows):
        self.day = day
        self._since = {house: since[house] for house in sorted(since)}
        self._sums = _added_sums(sum_rows, self._since)
        self._lots = _added_lots(lot_rows, self._since)

    def houses(self):
        return list(self._since)

    def since_days(self):
        return dict(self._since)

    def money(self):
        return self._sum("money")

    def fund(self):
        return self._sum("fund")

    def gain(self):
        return self._sum("gain")

    def owed(self):
        return self._by_partner("owed")

    def fees(self):
        return self._by_partner("fees")

    def paid(self):
        return self._by_partner("paid")

    def pieces(self):
        return [row[1:] for row in self._lot_rows_of("pieces")]

    def sales(self):
        return self._sum_rows_of("sales")

    def dealings(self):
        return self._sum_rows_of("dealings")

    def sold(self):
        return self._lot_rows_of("sold")

    def rows(self):
        goods = [(count, path) for thing, path, count in self.pieces() if house_of(thing) is None]
        held = [(count, path) for thing, path, count in self.pieces() if house_of(thing) is not None]
        spent = [(count, path) for partner, thing, path, count in self.sold()]
        own = [purse for partner, thing, purse in self.dealings() if house_of(thing) in self._since]
        return [
            ("money", self.money()),
            ("owed", self._sum("owed")),
            ("goods", _total_cost(goods)),
            ("held", _total_cost(held)),
            ("fund", self.fund()),
            ("gain", self.gain()),
            ("sales", self._sum("sales").minus(_total_cost(spent))),
            ("fees", self._sum("fees")),
            ("paid", self._sum("paid")),
            ("shares", _total(own)),
        ]

    def things(self):
        return _total([purse for row, purse in self.rows() if row in ("money", "owed", "goods", "held")])

    def sum_rows(self):
        """All sums as rows (name, partner, thing, Purse)."""
        return [key + (purse,) for key, purse in self._sums.items()]

    def lot_rows(self):
        """All lots as rows (name, partner, thing, path, count)."""
        return [key + (count,) for key, count in self._lots.items()]

    def _sum_rows_of(self, name):
        return [row[1:] for row in self.sum_rows() if row[0] == name]

    def _lot_rows_of(self, name):
        return [row[1:] for row in self.lot_rows() if row[0] == name]

    def _sum(self, name):
        return _total([purse for partner, thing, purse in self._sum_rows_of(name)])

    def _by_partner(self, name):
        return {partner: purse for partner, thing, purse in self._sum_rows_of(name)}

    def _names(self):
        return "".join([f" {house}" for house in self._since])

    def __eq__(self, other):
        return (
            isinstance(other, Packet)
            and self.day == other.day
            and self._since == other._since
            and self._sums == other._sums
            and self._lots == other._lots
        )

    def __len__(self):
        return len(self._since)

    def __repr__(self):
        return f"Packet({self.day}:{self._names()})"


def pack(world, deeds, house, day, *, since=0, opening=False):
    """The packet of one house on a day, or the opening one of that day."""
    need_house(world, house)
    # Played for an opening packet too: what the day's own deeds refuse is refused.
    state = play(world, deeds, day)
    if not opening:
        return _packet_at(state, house, since)
    if day == 0:
        return Packet(day, {house: since}, [], [])
    return _opening_behind(play(world, deeds, day - 1), house, since)


def roof_packet(state, since):
    """The joined packet of the houses under a roof on the state's day."""
    return together([_packet_at(state, house, since[house]) for house in since])


def roof_opening(before, since):
    """The joined opening packet of the houses under a roof on the day behind the state's."""
    return together([_opening_behind(before, house, since[house]) for house in since])


def empty(day):
    """A packet of no houses."""
    return Packet(day, {}, [], [])


def join(one, other):
    """The packet of all houses of two packets of one day; Clash where a house is in both."""
    since = one.since_days()
    added = other.since_days()
    if one.day != other.day or any([house in since for house in added]):
        raise Clash("two packets that do not stand side by side")
    since.update(added)
    return Packet(one.day, since, one.sum_rows() + other.sum_rows(), one.lot_rows() + other.lot_rows())


def together(packets):
    """All packets of a list joined."""
    joined = packets[0]
    for packet in packets[1:]:
        joined = join(joined, packet)
    return joined


def _packet_at(state, house, since):
    sum_rows = _sums_had(state, house) + _sums_done(state, house)
    return Packet(state.day, {house: since}, sum_rows, _lots_had(state, house) + _lots_sold(state, house))


def _opening_behind(before, house, since):
    return Packet(before.day + 1, {house: since}, _sums_had(before, house), _lots_had(before, house))


def _sums_had(state, house):
    claims = [("owed", other, "", state.claim(house, other)) for other in state.houses()]
    return [("money", "", "", state.purse(house))] + claims


def _lots_had(state, house):
    return [("pieces", "", thing, path, count) for thing, count, path in state.all_pieces(house)]


def _sums_done(state, house):
    return [
        (name, partner, thing, Purse([(coin, Part(amount))]))
        for kind, partner, thing, coin, amount in state.moves_of_day(house)
        for name in _names_of_sums(kind, thing, amount)
    ]


def _names_of_sums(kind, thing, amount):
    """In which sums of a packet money of a deed stands that a house had (or spent, below nought)."""
    if kind in _SUM_BY_KIND:
        return [_SUM_BY_KIND[kind]]
    names = []
    # The taker's side of a hand is money spent, and no sale of its own.
    if kind in _SELLING and amount > 0:
        names.append("sales")
    if house_of(thing) is not None:
        names.append("dealings")
    return names


def _lots_sold(state, house):
    return [("sold", partner, thing, path, count) for partner, thing, count, path in state.sold_of_day(house)]


def _added_sums(sum_rows, since):
    sums = {}
    for name, partner, thing, purse in sum_rows:
        if not _is_between(name, partner, thing, since):
            key = (name, partner, thing)
            sums[key] = sums.get(key, Purse()).plus(purse)
    return {key: sums[key] for key in sorted(sums) if len(sums[key]) > 0}


def _added_lots(lot_rows, since):
    lots = {}
    for name, partner, thing, path, count in lot_rows:
        if not _is_between(name, partner, thing, since):
            key = (name, partner, thing, cut(path, since))
            lots[key] = lots.get(key, 0) + count
    return {key: lots[key] for key in sorted(lots)}


def _is_between(name, partner, thing, since):
    """Whether a row is between houses under the roof: by its partner, or by whose shares it tells."""
    # Dealings tell of the roof's own shares too: they are what it had of others for its shares.
    return partner in since or (name != "dealings" and house_of(thing) in since)


def _total(purses):
    total = Purse()
    for purse in purses:
        total = total.plus(purse)
    return total


def _total_cost(lots):
    return _total([cost(count, path) for count, path in lots])
