"""Forms: sums of rows of a book, read from a text and shown as one."""

from oneroof.books import ROWS, need_row
from oneroof.errors import BadForm
from oneroof.parts import Part, Purse
from oneroof.worlds import LETTERS

MOST_SIGNS = 200
MOST_BRACKETS = 10
MOST_FIGURES = 6

_FIGURES = "0123456789"
_SIGNS = "+-*()"

# What stands behind the last word of a form.
_END = ""


def read_form(text):
    """The rows of the sum with their factors, without those that are nought."""
    if len(text) > MOST_SIGNS:
        raise BadForm("too many signs")
    words = _words(text)
    factors = {row: 0 for row in ROWS}
    end = _read_sum(words, 0, 1, 0, factors)
    if words[end] != _END:
        raise BadForm("something behind the last term")
    return [(row, factor) for row, factor in factors.items() if factor != 0]


def show_form(terms):
    """The sum of the terms as a text."""
    if len(terms) == 0:
        return "0"
    shown = "".join([_shown_sign(factor) + _shown_row(row, factor) for row, factor in terms])
    return ("-" if terms[0][1] < 0 else "") + shown[len(" + "):]


def form_worth(terms, rows):
    """The purse of the sum, by the rows of a book."""
    purses = dict(rows)
    total = Purse()
    for row, factor in terms:
        total = total.plus(purses[row].times(Part(factor)))
    return total


def _shown_sign(factor):
    return " - " if factor < 0 else " + "


def _shown_row(row, factor):
    return row if abs(factor) == 1 else f"{abs(factor)} * {row}"


def _words(text):
    """The names, numbers and signs of a form, and the end behind them."""
    words = []
    sort_ahead = " "
    for sign in text:
        sort = _sort_of(sign)
        if sort == sort_ahead and sort in ("letter", "figure"):
            words[-1] = words[-1] + sign
        elif sort != " ":
            words.append(sign)
        sort_ahead = sort
    return words + [_END]


def _sort_of(sign):
    """Signs of names and of numbers belong together; each other one stands for itself."""
    if sign in LETTERS:
        return "letter"
    if sign in _FIGURES:
        return "figure"
    if sign in _SIGNS or sign == " ":
        return sign
    raise BadForm("a sign that no form has")


def _read_sum(words, at, times, depth, factors):
    """Adds up so many times the sum that begins there; tells where it ends."""
    sign = 1
    if words[at] == "-":
        sign = -1
        at += 1
    at = _read_term(words, at, sign * times, depth, factors)
    while words[at] in ("+", "-"):
        sign = 1 if words[at] == "+" else -1
        at = _read_term(words, at + 1, sign * times, depth, factors)
    return at


def _read_term(words, at, times, depth, factors):
    """Adds up so many times the term that begins there; tells where it ends."""
    if words[at].isdigit():
        if len(words[at]) > MOST_FIGURES or words[at + 1] != "*":
            raise BadForm("no number of times")
        times = times * int(words[at])
        at += 2
    if words[at] == "(":
        return _read_bracket(words, at, times, depth + 1, factors)
    if not words[at].isalpha():
        raise BadForm("no term where one must stand")
    need_row(words[at])
    factors[words[at]] += times
    return at + 1


def _read_bracket(words, at, times, depth, factors):
    if depth > MOST_BRACKETS:
        raise BadForm("brackets too deep within one another")
    end = _read_sum(words, at + 1, times, depth, factors)
    if words[end] != ")":
        raise BadForm("a bracket that is not closed")
    return end + 1
