"""Books: what a head and all that it rules have and did on a day, as though they were one house."""

from oneroof.errors import NoRow
from oneroof.packets import roof_opening, roof_packet
from oneroof.parts import Part, Purse
from oneroof.states import play, plays
from oneroof.steps import since_by_day
from oneroof.worlds import need_house

ROWS = ("money", "owed", "goods", "held", "fund", "gain", "sales", "fees", "paid", "shares", "came")

# The rows that tell what there is, and those that tell by what it came about.
_THINGS = ("money", "owed", "goods", "held")
_CHANGES = ("came", "fund", "gain", "sales", "fees", "paid", "shares")


class Book:
    """The book of a head on a day."""

    def __init__(self, head, day, since, rows):
        self.head = head
        self.day = day
        self._since = dict(since)
        self._rows = _in_order(dict(rows))

    def since_days(self):
        return dict(self._since)

    def rows(self):
        return list(self._rows.items())

    def row(self, name):
        need_row(name)
        return self._rows[name]

    def things(self):
        return self.sum_of(_THINGS)

    def changes(self):
        """By what the things became what they are since the day before."""
        return self.sum_of(_CHANGES)

    def sum_of(self, names):
        total = Purse()
        for name in names:
            total = total.plus(self._rows[name])
        return total

    def __eq__(self, other):
        return (
            isinstance(other, Book)
            and self.head == other.head
            and self.day == other.day
            and self._since == other._since
            and self._rows == other._rows
        )

    def __len__(self):
        return len([name for name, purse in self._rows.items() if len(purse) > 0])

    def __repr__(self):
        return f"Book({self.head}, day {self.day})"


def need_row(name):
    if name not in ROWS:
        raise NoRow(name)


def book_of(world, deeds, head, day):
    """The book of the head on the day."""
    need_house(world, head)
    states = plays(world, deeds, day)
    return _book_at(states, since_by_day(states, head), head, day)


def differ(one, other):
    """What parts two books: by how much each row that is not equal is more in the other one."""
    return [
        (name, other.row(name).minus(one.row(name)))
        for name in ROWS if one.row(name) != other.row(name)
    ]


def laid(rows, moves):
    """The rows of a book with all moves laid upon them."""
    purses = dict(rows)
    for name, purse in moves:
        need_row(name)
        purses[name] = purses[name].plus(purse)
    return list(_in_order(purses).items())


def rates(world, deeds, day):
    """The rate of each coin at the end of the day."""
    return _rates_at(world, play(world, deeds, day))


def told_in(purse, by_rates, *, into=None):
    """The worth of a purse, in whole measures or in a coin."""
    worth = purse.worth(by_rates)
    if into is None:
        return worth
    return worth.over(Part(by_rates[into], 1000))


def earned(world, deeds, head, day):
    """What changed the things on all days up to that one, each by its day's rates."""
    need_house(world, head)
    states = plays(world, deeds, day)
    sinces = since_by_day(states, head)
    total = Part(0)
    for at, state in enumerate(states):
        changes = _book_at(states, sinces, head, at).changes()
        total = total.plus(changes.worth(_rates_at(world, state)))
    return total


def turned(world, deeds, head, day):
    """What the things of each day before became worth more by the next day's rates."""
    need_house(world, head)
    states = plays(world, deeds, day)
    sinces = since_by_day(states, head)
    total = Part(0)
    for before, state, since in zip(states, states[1:], sinces):
        things = roof_packet(before, since).things()
        total = total.plus(things.worth(_rates_at(world, state)))
        total = total.minus(things.worth(_rates_at(world, before)))
    return total


def _in_order(purses):
    return {name: purses[name] for name in ROWS}


def _rates_at(world, state):
    return {coin: state.rate(coin) for coin, first in world.coin_rows()}


def _book_at(states, sinces, head, day):
    """The book of a day, by the states and the since-days of all days up to it."""
    rows = roof_packet(states[day], sinces[day]).rows()
    return Book(head, day, sinces[day], rows + [("came", _came(states, sinces, day))])


def _came(states, sinces, day):
    """The opening things, less those that the book of the day before tells."""
    if day == 0:
        return Purse()
    before = states[day - 1]
    return roof_opening(before, sinces[day]).things().minus(roof_packet(before, sinces[day - 1]).things())
