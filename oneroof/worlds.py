"""Worlds of coins and houses, and what is looked at in a deed."""

from oneroof.errors import BadCount, BadDay, BadDeed, BadName, BadNumber, NoCoin, NoHouse, Taken

MOST_DAY = 29
MOST_DEEDS = 60
MOST_COINS = 5
MOST_HOUSES = 8
MOST_LETTERS = 6
LETTERS = "abcdefghijklmnopqrstuvwxyz"

# The name by which strangers are told where a house could stand.
STRANGERS = ""

# For each kind of deed what its places behind the first one must be.
PLACES = {
    "rate": ("day", "coin", "rate"),
    "fund": ("day", "house", "coin", "change"),
    "gain": ("day", "house", "coin", "change"),
    "get": ("day", "house", "thing", "count", "coin", "price"),
    "sell": ("day", "house", "thing", "count", "coin", "price"),
    "hand": ("day", "house", "house", "thing", "count", "coin", "price"),
    "lend": ("day", "house", "house", "coin", "amount"),
    "fee": ("day", "house", "house", "coin", "amount"),
    "split": ("day", "house", "times"),
    "pay": ("day", "house", "coin", "per"),
}

# The kinds of deeds that are between two houses.
TWO_SIDED = ("hand", "lend", "fee")

# The least and the greatest number of each sort; a change is not 0 besides.
BOUNDS = {
    "rate": (1, 1000000000),
    "shares": (1, 1000000),
    "change": (-1000000000000, 1000000000000),
    "amount": (1, 1000000000000),
    "count": (1, 1000000),
    "price": (0, 1000000000000),
    "times": (2, 9),
    "per": (1, 1000000),
}


class World:
    """Coins with their first rates, and houses with their shares."""

    def __init__(self, coins, houses):
        self._rates = _numbers_by_name(coins, MOST_COINS, "rate")
        self._shares = _numbers_by_name(houses, MOST_HOUSES, "shares")

    def coin_rows(self):
        return list(self._rates.items())

    def house_rows(self):
        return list(self._shares.items())

    def has_coin(self, name):
        return name in self._rates

    def has_house(self, name):
        return name in self._shares


def need_house(world, name):
    if not world.has_house(name):
        raise NoHouse(name)


def need_coin(world, name):
    if not world.has_coin(name):
        raise NoCoin(name)


def need_day(day):
    if day < 0 or day > MOST_DAY:
        raise BadDay(day)


def need_thing(world, thing):
    if thing.startswith("@"):
        need_house(world, thing[1:])
    else:
        _need_name(thing)


def shares_of(house):
    """The thing that the house's shares are."""
    return "@" + house


def house_of(thing):
    """The house whose shares the thing is; None where it is a good."""
    return thing[1:] if thing.startswith("@") else None


def need_deed(world, deed):
    if not is_kind_of_length(deed):
        raise BadDeed("no kind of deed with that number of places")
    for sort, place in zip(PLACES[deed[0]], deed[1:]):
        _need_place(world, sort, place)
    if deed[0] in TWO_SIDED and deed[2] == deed[3]:
        raise BadDeed("one house on both sides")


def is_kind_of_length(places):
    """Whether the first place tells a kind of deed that has so many places."""
    if len(places) == 0 or places[0] not in PLACES:
        return False
    return len(places) == 1 + len(PLACES[places[0]])


def _need_place(world, sort, place):
    if sort == "day":
        need_day(place)
    elif sort == "house":
        need_house(world, place)
    elif sort == "coin":
        need_coin(world, place)
    elif sort == "thing":
        need_thing(world, place)
    else:
        _need_number(sort, place)


def _need_number(sort, number):
    least, most = BOUNDS[sort]
    if number < least or number > most:
        raise BadNumber(number)
    if sort == "change" and number == 0:
        raise BadNumber(number)


def _need_name(name):
    if len(name) < 1 or len(name) > MOST_LETTERS:
        raise BadName(name)
    for sign in name:
        if sign not in LETTERS:
            raise BadName(name)


def _numbers_by_name(rows, most, sort):
    if len(rows) < 1 or len(rows) > most:
        raise BadCount(len(rows))
    numbers = {}
    for name, number in rows:
        _need_name(name)
        if name in numbers:
            raise Taken(name)
        _need_number(sort, number)
        numbers[name] = number
    return numbers
