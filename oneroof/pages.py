"""Pages: a roof's world and its kept tellings as one text."""

from oneroof.errors import BadText, Missing, RoofError
from oneroof.roofs import Roof, follow
from oneroof.words import read_telling, read_whole, telling_text
from oneroof.worlds import World

# Stands for the houses while only coins are read: a world has at least one.
_ANY_HOUSES = (("a", 1),)


def write_page(roof):
    """The roof as a text; what was taken back and what was given out is not in it."""
    lines = [f"coin {name} {rate}" for name, rate in roof.world.coin_rows()]
    lines = lines + [f"house {name} {shares}" for name, shares in roof.world.house_rows()]
    lines = lines + [telling_text(telling) for telling in roof.tellings()]
    return "".join([line + "\n" for line in lines])


def read_page(text):
    """The roof that the page writes; BadText with the first line that is wrong."""
    lines = text.split("\n")
    # Behind the last line feed stands nothing, so this last part is no line.
    if lines[-1] != "":
        raise BadText(len(lines))
    coins = _read_coins(lines)
    houses = _read_houses(lines, coins)
    roof = Roof(World(coins, houses))
    for number, line in enumerate(lines[:-1], 1):
        if number > len(coins) + len(houses):
            _follow_line(roof, line, number)
    return roof


def _read_coins(lines):
    coins = []
    while lines[len(coins)].startswith("coin "):
        number = len(coins) + 1
        coins.append(_read_row(lines, number))
        _need_world(coins, _ANY_HOUSES, number)
    if len(coins) == 0:
        raise BadText(1)
    return coins


def _read_houses(lines, coins):
    """The houses of the lines behind those of the coins."""
    houses = []
    while lines[len(coins) + len(houses)].startswith("house "):
        number = len(coins) + len(houses) + 1
        houses.append(_read_row(lines, number))
        _need_world(coins, houses, number)
    if len(houses) == 0:
        raise BadText(len(coins) + 1)
    return houses


def _read_row(lines, number):
    """The name of a coin or a house, and its number, that a line writes."""
    words = lines[number - 1].split(" ")
    if len(words) != 3 or read_whole(words[2]) is None:
        raise BadText(number)
    return words[1], read_whole(words[2])


def _need_world(coins, houses, number):
    """Refuses the line, the last one of the coins or houses, where no world has them."""
    try:
        World(coins, houses)
    except RoofError:
        raise BadText(number) from None


def _follow_line(roof, line, number):
    try:
        follow(roof, read_telling(roof.world, line))
    except (RoofError, Missing):
        raise BadText(number) from None
