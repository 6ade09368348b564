"""Desks: a roof served by lines of words, each answered by a text."""

from oneroof.books import need_row
from oneroof.errors import BadDay, BadForm, BadText, Full, NoHouse, NoRow, Nothing, NoTelling, Ring, Short
from oneroof.forms import form_worth, read_form
from oneroof.owners import ruled
from oneroof.roofs import follow
from oneroof.stakes import parts_of
from oneroof.states import play
from oneroof.steps import spells
from oneroof.words import read_number, read_telling
from oneroof.worlds import need_house


class Desk:
    """A desk of a roof; others may tell and ask the roof besides."""

    def __init__(self, roof):
        self.roof = roof

    def ask(self, line):
        """The answer to the line, also where it is refused."""
        try:
            return _answer(self.roof, line)
        except BadText:
            return "refused BadText"
        except BadForm:
            return "refused BadForm"
        except BadDay:
            return "refused BadDay"
        except NoHouse:
            return "refused NoHouse"
        except NoRow:
            return "refused NoRow"
        except NoTelling:
            return "refused NoTelling"
        except Full:
            return "refused Full"
        except Short:
            return "refused Short"
        except Ring:
            return "refused Ring"
        except Nothing:
            return "refused Nothing"


def _answer_telling(roof, line):
    number = follow(roof, read_telling(roof.world, line))
    return "done" if number is None else str(number)


def _answer_undo(roof, line):
    _need_words(line.split(" "), 1)
    roof.undo()
    return "done"


def _answer_redo(roof, line):
    _need_words(line.split(" "), 1)
    roof.redo()
    return "done"


def _answer_things(roof, line):
    head, day = _read_asked(line.split(" ")[1:])
    return repr(roof.book(head, day).things())


def _answer_row(roof, line):
    words = line.split(" ")
    head, day = _read_asked(words[2:])
    _need_words(words, 4)
    need_row(words[1])
    return repr(roof.book(head, day).row(words[1]))


def _answer_form(roof, line):
    words = line.split(" ", 3)
    head, day = _read_asked(words[1:3])
    if len(words) < 4:
        raise BadText(1)
    terms = read_form(words[3])
    return repr(form_worth(terms, roof.book(head, day).rows()))


def _answer_rules(roof, line):
    head, day = _read_asked(line.split(" ")[1:])
    need_house(roof.world, head)
    state = play(roof.world, roof.stands(), day)
    return " ".join([house for house, votes in ruled(state, head)])


def _answer_parts(roof, line):
    head, day = _read_asked(line.split(" ")[1:])
    since = spells(roof.world, roof.stands(), head, day)
    state = play(roof.world, roof.stands(), day)
    return "; ".join([f"{house} {part}" for house, part in parts_of(state, since, head)])


_ANSWERS = {
    "tell": _answer_telling,
    "right": _answer_telling,
    "strike": _answer_telling,
    "undo": _answer_undo,
    "redo": _answer_redo,
    "things": _answer_things,
    "row": _answer_row,
    "form": _answer_form,
    "rules": _answer_rules,
    "parts": _answer_parts,
}


def _answer(roof, line):
    kind = line.split(" ")[0]
    if kind not in _ANSWERS:
        raise BadText(1)
    answer = _ANSWERS[kind]
    return answer(roof, line)


def _read_asked(words):
    """The head and the day that the words tell; BadText where they are no words of that kind."""
    _need_words(words, 2)
    return words[0], read_number(words[1])


def _need_words(words, many):
    if len(words) != many or "" in words:
        raise BadText(1)
