"""A roof: a world and the history of all that was told of it."""

from oneroof.books import book_of, differ
from oneroof.errors import Full, Nothing, NoTelling
from oneroof.states import play
from oneroof.worlds import MOST_DAY, MOST_DEEDS, need_day, need_deed, need_house

MOST_GIVEN = 30


class Roof:
    """Its lists of tellings are never changed but by undo and redo; a telling makes a new one."""

    def __init__(self, world):
        self.world = world
        self._kept = []
        # What was taken back; the last one in the list is done again first.
        self._undone = []
        self._given = []

    def tell(self, deed):
        return self.tell_all([deed])[0]

    def right(self, number, deed):
        self._keep(_with_telling(self.world, self._kept, ("right", number, deed)))

    def strike(self, number):
        self._keep(_with_telling(self.world, self._kept, ("strike", number)))

    def tell_all(self, deeds):
        """Tells all deeds, or none where one of them is refused."""
        longer = _with_deeds(self.world, self._kept, deeds)
        first = _next_number(self._kept)
        # An empty list is no telling, so what could be done again still can.
        if len(deeds) > 0:
            self._keep(longer)
        return list(range(first, first + len(deeds)))

    def undo(self):
        if len(self._kept) == 0:
            raise Nothing("nothing to undo")
        self._undone.append(self._kept.pop())

    def redo(self):
        if len(self._undone) == 0:
            raise Nothing("nothing to do again")
        self._kept.append(self._undone.pop())

    def tellings(self):
        return list(self._kept)

    def stands(self, *, known=None):
        return _standing(self._first_tellings(known))

    def book(self, head, day, *, known=None):
        need_house(self.world, head)
        need_day(day)
        return book_of(self.world, self.stands(known=known), head, day)

    def give(self, head, day):
        """Gives out a book, which stays as it is; tells its number."""
        book = self.book(head, day)
        if len(self._given) >= MOST_GIVEN:
            raise Full("no more books are given out")
        self._given.append(book)
        return len(self._given)

    def given(self):
        return list(self._given)

    def moved(self, number):
        """What parts a given-out book from the book as known now."""
        if number < 1 or number > len(self._given):
            raise NoTelling(number)
        book = self._given[number - 1]
        return differ(book, self.book(book.head, book.day))

    def what_if(self, deeds, head, day):
        """The book as it would be if the deeds were told."""
        tellings = _with_deeds(self.world, self._kept, deeds)
        return book_of(self.world, _standing(tellings), head, day)

    def twin(self):
        other = Roof(self.world)
        other._kept = list(self._kept)
        other._undone = list(self._undone)
        other._given = list(self._given)
        return other

    def _keep(self, tellings):
        self._kept = tellings
        self._undone = []

    def _first_tellings(self, known):
        if known is None:
            return self._kept
        if known < 0 or known > len(self._kept):
            raise NoTelling(known)
        return self._kept[:known]

    def __eq__(self, other):
        return (
            isinstance(other, Roof)
            and self.world.coin_rows() == other.world.coin_rows()
            and self.world.house_rows() == other.world.house_rows()
            and self._kept == other._kept
            and self._given == other._given
        )

    def __len__(self):
        return len(self.stands())

    def __repr__(self):
        return f"Roof({len(self.world.house_rows())} houses, {len(self._kept)} tellings)"


def follow(roof, telling):
    """Tells the roof what a row of tellings tells; the number where that is a deed."""
    if telling[0] == "tell":
        return roof.tell(telling[1])
    if telling[0] == "right":
        roof.right(telling[1], telling[2])
    else:
        roof.strike(telling[1])
    return None


def _standing(tellings):
    """The deeds that stand by rising number, with their last words."""
    deeds = {}
    number = 0
    for telling in tellings:
        if telling[0] == "tell":
            number += 1
            deeds[number] = telling[1]
        elif telling[0] == "right":
            deeds[telling[1]] = telling[2]
        else:
            del deeds[telling[1]]
    return list(deeds.items())


def _next_number(tellings):
    return 1 + len([telling for telling in tellings if telling[0] == "tell"])


def _with_deeds(world, tellings, deeds):
    """The tellings and a telling of each deed, one after the other."""
    for deed in deeds:
        tellings = _with_telling(world, tellings, ("tell", deed))
    return tellings


def _with_telling(world, tellings, telling):
    """The tellings and one more, where it is not refused."""
    if telling[0] != "tell":
        _need_standing(tellings, telling[1])
    if telling[0] != "strike":
        need_deed(world, telling[-1])
    if len(tellings) >= MOST_DEEDS:
        raise Full("no more tellings are kept")
    longer = tellings + [telling]
    play(world, _standing(longer), MOST_DAY)
    return longer


def _need_standing(tellings, number):
    if number not in [told for told, deed in _standing(tellings)]:
        raise NoTelling(number)
