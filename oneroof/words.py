"""Deeds as text, and what is told of them to a roof."""

from oneroof.errors import BadText, Missing, RoofError
from oneroof.worlds import PLACES, is_kind_of_length, need_deed

# How many figures a number of a line has that is not a deed's.
MOST_FIGURES = 9


def deed_text(deed):
    return " ".join([str(place) for place in deed])


def read_deed(world, line):
    """The deed that the line writes; BadText where no right deed writes it."""
    words = line.split(" ")
    if not is_kind_of_length(words):
        raise BadText(1)
    places = [words[0]]
    for sort, word in zip(PLACES[words[0]], words[1:]):
        places.append(word if sort in ("house", "coin", "thing") else read_whole(word))
    if None in places:
        raise BadText(1)
    deed = tuple(places)
    try:
        need_deed(world, deed)
    except (RoofError, Missing):
        raise BadText(1) from None
    return deed


def read_whole(word):
    """The whole number that is written just so, or None where there is none."""
    try:
        number = int(word)
    except ValueError:
        return None
    # int reads more than is written: blanks, a plus, "-0", noughts ahead.
    return number if str(number) == word else None


def read_number(word):
    """A whole number of few figures, as the lines that are not deeds have it; else BadText."""
    number = read_whole(word)
    if number is None or len(word.lstrip("-")) > MOST_FIGURES:
        raise BadText(1)
    return number


def telling_text(telling):
    """A row of a roof's tellings as a line."""
    if telling[0] == "tell":
        return f"tell {deed_text(telling[1])}"
    if telling[0] == "right":
        return f"right {telling[1]} {deed_text(telling[2])}"
    return f"strike {telling[1]}"


def read_telling(world, line):
    """The row of tellings that the line writes; BadText where no right one writes it."""
    kind, _, rest = line.partition(" ")
    if kind == "tell":
        return ("tell", read_deed(world, rest))
    if kind == "strike":
        return ("strike", read_number(rest))
    if kind == "right":
        number, _, deed = rest.partition(" ")
        return ("right", read_number(number), read_deed(world, deed))
    raise BadText(1)
