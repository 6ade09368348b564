"""Deeds as text."""

from oneroof.errors import BadText, Missing, RoofError
from oneroof.worlds import PLACES, is_kind_of_length, need_deed


def deed_text(deed):
    return " ".join([str(place) for place in deed])


def read_deed(world, line):
    """The deed that the line writes; BadText where no right deed writes it."""
    words = line.split(" ")
    if not is_kind_of_length(words):
        raise BadText(1)
    places = [words[0]]
    for sort, word in zip(PLACES[words[0]], words[1:]):
        places.append(word if sort in ("house", "coin", "thing") else read_whole(word))
    if None in places:
        raise BadText(1)
    deed = tuple(places)
    try:
        need_deed(world, deed)
    except (RoofError, Missing):
        raise BadText(1) from None
    return deed


def read_whole(word):
    """The whole number that is written just so, or None where there is none."""
    try:
        number = int(word)
    except ValueError:
        return None
    # int reads more than is written: blanks, a plus, "-0", noughts ahead.
    return number if str(number) == word else None
