"""Deeds for the tests: right ones of all kinds, wrong ones, and thrown rows of them."""

from oneroof.errors import BadDay, BadName, BadNumber, NoCoin, NoHouse, Ring, Short
from oneroof.states import play
from oneroof.worlds import World

# The greatest amount and price.
MOST = 1000000000000


def small_world():
    return World([("x", 1000), ("y", 250)], [("a", 100), ("b", 40), ("c", 1)])


# Right deeds of each kind: in the middle, and with every number at its least and its greatest.
RIGHT = (
    ("rate", 5, "x", 1500),
    ("rate", 0, "y", 1),
    ("rate", 29, "x", 1000000000),
    ("fund", 3, "a", "x", 500),
    ("fund", 0, "a", "y", -MOST),
    ("fund", 29, "b", "x", MOST),
    ("fund", 1, "c", "x", 1),
    ("fund", 1, "c", "x", -1),
    ("gain", 3, "a", "x", -70),
    ("gain", 0, "a", "y", -MOST),
    ("gain", 29, "b", "x", MOST),
    ("gain", 1, "c", "x", 1),
    ("gain", 1, "c", "x", -1),
    ("get", 4, "a", "corn", 12, "x", 30),
    ("get", 0, "b", "@a", 1, "y", 0),
    ("get", 29, "c", "abcdef", 1000000, "x", MOST),
    ("get", 4, "a", "@a", 1, "x", 30),
    ("sell", 4, "a", "z", 12, "x", 30),
    ("sell", 0, "b", "@c", 1, "y", 0),
    ("sell", 29, "c", "x", 1000000, "x", MOST),
    ("hand", 3, "a", "b", "@c", 10, "x", 500),
    ("hand", 0, "b", "c", "corn", 1, "y", 0),
    ("hand", 29, "c", "a", "@a", 1000000, "x", MOST),
    ("lend", 7, "a", "b", "x", 90),
    ("lend", 0, "b", "a", "y", 1),
    ("lend", 29, "c", "b", "x", MOST),
    ("fee", 7, "a", "b", "x", 90),
    ("fee", 0, "b", "a", "y", 1),
    ("fee", 29, "c", "b", "x", MOST),
    ("split", 6, "a", 5),
    ("split", 0, "b", 2),
    ("split", 29, "c", 9),
    ("pay", 8, "a", "x", 25),
    ("pay", 0, "b", "y", 1),
    ("pay", 29, "c", "x", 1000000),
)

DAY = [(wrong, BadDay, {"day": wrong}) for wrong in (-1, 30, 1000, -30)]
HOUSE = [(wrong, NoHouse, {"name": wrong}) for wrong in ("d", "x", "", "A", "@a", "ab", "corn")]
COIN = [(wrong, NoCoin, {"name": wrong}) for wrong in ("z", "a", "", "X", "@x", "xy", "corn")]
GOODS = [
    (wrong, BadName, {"name": wrong})
    for wrong in ("", "abcdefg", "Corn", "corN", "c1", "7", "a@", "a-b", "a_b", "a`", "a{", "a\n")
]
SHARES = [("@" + wrong, NoHouse, {"name": wrong}) for wrong in ("", "d", "x", "A", "@a", "corn", "ab")]
THING = GOODS + SHARES


def out_of(*numbers):
    return [(wrong, BadNumber, {"number": wrong}) for wrong in numbers]


RATE = out_of(0, -1, 1000000001)
CHANGE = out_of(0, MOST + 1, -MOST - 1)
AMOUNT = out_of(0, -1, MOST + 1)
COUNT = out_of(0, -1, 1000001)
PRICE = out_of(-1, MOST + 1)
TIMES = out_of(1, 0, -2, 10)
PER = out_of(0, -1, 1000001)

# For each kind: for each place behind the first one the wrong values, each
# with the class and the fields of its refusal.
WRONG = {
    "rate": (DAY, COIN, RATE),
    "fund": (DAY, HOUSE, COIN, CHANGE),
    "gain": (DAY, HOUSE, COIN, CHANGE),
    "get": (DAY, HOUSE, THING, COUNT, COIN, PRICE),
    "sell": (DAY, HOUSE, THING, COUNT, COIN, PRICE),
    "hand": (DAY, HOUSE, HOUSE, THING, COUNT, COIN, PRICE),
    "lend": (DAY, HOUSE, HOUSE, COIN, AMOUNT),
    "fee": (DAY, HOUSE, HOUSE, COIN, AMOUNT),
    "split": (DAY, HOUSE, TIMES),
    "pay": (DAY, HOUSE, COIN, PER),
}


def with_place(deed, place, value):
    return deed[:place] + (value,) + deed[place + 1:]


def first_of(kind):
    return [deed for deed in RIGHT if deed[0] == kind][0]


def wrong_places():
    """Deeds with one wrong place: (deed, error, fields)."""
    return [
        (with_place(first_of(kind), place, wrong), error, fields)
        for kind, places in WRONG.items()
        for place, values in enumerate(places, 1)
        for wrong, error, fields in values
    ]


def twice_wrong():
    """Deeds with two wrong places, refused by the left one: (deed, error, fields)."""
    found = []
    for kind, places in WRONG.items():
        for left, values in enumerate(places, 1):
            for right in range(left + 1, len(places) + 1):
                wrong, error, fields = values[0]
                deed = with_place(first_of(kind), left, wrong)
                # The other value of two wrong houses tells the two refusals apart.
                found.append((with_place(deed, right, places[right - 1][1][0]), error, fields))
    return found


def misshapen():
    """Deeds that are refused for their kind or their number of places."""
    found = [(), ("give", 3, "a"), ("",), ("", 3), ("Rate", 5, "x", 1500), ("rates", 5, "x", 1500), ("tell",)]
    for kind in WRONG:
        deed = first_of(kind)
        found += [deed[:1], deed[:-1], deed + (1,), deed + ("x",), deed + deed[1:]]
    return found


def one_sided():
    """Deeds between a house and itself, right but for that."""
    return [with_place(deed, 3, deed[2]) for deed in RIGHT if deed[0] in ("hand", "lend", "fee")]


THROWN_THINGS = ("corn", "@b", "b", "@c", "@a", "@d", "@b", "@c")


class Dice:
    """Throws that fall alike in every run."""

    def __init__(self, seed):
        self.now = seed * 7919 + 17

    def throw(self, many):
        self.now = (self.now * 1103515245 + 12345) % 2 ** 31
        return (self.now >> 9) % many

    def among(self, least, most):
        return least + self.throw(most - least + 1)

    def one_of(self, choices):
        return choices[self.throw(len(choices))]

    def shuffled(self, choices):
        left, found = list(choices), []
        while left:
            found.append(left.pop(self.throw(len(left))))
        return found


def thrown_world():
    """A world of few shares, so that houses come to rule one another by few deeds."""
    return World([("x", 1000), ("y", 250)], [("d", 5), ("b", 4), ("a", 6), ("c", 3)])


def thrown_deed(dice, day):
    kind = dice.one_of(tuple(WRONG) + ("get",) * 5 + ("hand",) * 3)
    giver, taker = dice.shuffled(("a", "b", "c", "d"))[:2]
    thing = dice.one_of(THROWN_THINGS)
    coin = dice.one_of(("x", "y"))
    places = {
        "rate": (coin, dice.among(1, 3000)),
        "fund": (giver, coin, dice.one_of((-40, 7, 100))),
        "gain": (giver, coin, dice.one_of((-30, 9, 80))),
        "get": (giver, thing, dice.among(1, 4), coin, dice.among(0, 50)),
        "sell": (giver, thing, dice.among(1, 3), coin, dice.among(0, 50)),
        "hand": (giver, taker, thing, dice.among(1, 3), coin, dice.among(0, 50)),
        "lend": (giver, taker, coin, dice.among(1, 9)),
        "fee": (giver, taker, coin, dice.among(1, 9)),
        "split": (giver, dice.among(2, 3)),
        "pay": (giver, coin, dice.among(1, 5)),
    }
    return (kind, day) + places[kind]


def thrown_numbers(dice, many, last_day):
    """Rows (day, number) in the order of a walk, the numbers of a later day not always greater."""
    numbers = dice.shuffled(range(1, 2 * many))[:many]
    return sorted([(dice.among(0, last_day), number) for number in numbers])


def thrown_rows(dice, many, last_day):
    """Rows of right deeds in any order, by no means all of which can be walked."""
    return dice.shuffled([(number, thrown_deed(dice, day)) for day, number in thrown_numbers(dice, many, last_day)])


def walkable_rows(seed, many=40, last_day=4):
    """Thrown rows in any order that can be walked to the end, with many kinds of pieces in many hands."""
    dice = Dice(seed)
    rows = []
    for day, number in thrown_numbers(dice, many, last_day):
        deed = thrown_deed(dice, day)
        state = play(thrown_world(), rows, last_day)
        lots = [(house, thing) for house in state.houses() for thing in THROWN_THINGS if state.many(house, thing)]
        if deed[0] in ("sell", "hand") and lots:
            giver, thing = dice.one_of(lots)
            most = min(3, state.many(giver, thing))
            deed = deed[:2] + (giver,) + deed[3:-4] + (thing, dice.among(1, most)) + deed[-2:]
        if deed[2] != deed[3] and is_walked(rows + [(number, deed)]):
            rows.append((number, deed))
    return dice.shuffled(rows)


def is_walked(rows):
    try:
        play(thrown_world(), rows, 29)
    except (Short, Ring):
        return False
    return True


def walk_order(rows, day):
    """The rows up to the day's end in the order of the walk."""
    return sorted([row for row in rows if row[1][1] <= day], key=lambda row: (row[1][1], row[0]))
