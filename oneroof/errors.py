"""Everything that Oneroof refuses, one class for each kind of refusal.

Refused numbers stay out of the messages: Python does not write out numbers
of thousands of figures, and the refusal must not fail by its own message.
"""


class RoofError(ValueError):
    """What was handed in is not right."""


class BadName(RoofError):
    """A name is not one to six small letters."""

    def __init__(self, name):
        super().__init__(f"no right name: {name!r}")
        self.name = name


class BadDay(RoofError):
    """A day is out of its bounds."""

    def __init__(self, day):
        super().__init__("a day out of bounds")
        self.day = day


class BadNumber(RoofError):
    """A number is out of its bounds."""

    def __init__(self, number):
        super().__init__("a number out of bounds")
        self.number = number


class BadCount(RoofError):
    """A world has too few or too many coins or houses."""

    def __init__(self, count):
        super().__init__("too few or too many coins or houses")
        self.count = count


class Taken(RoofError):
    """A coin, or a house, bears the name of one before it."""

    def __init__(self, name):
        super().__init__(f"a name that is taken: {name!r}")
        self.name = name


class BadDeed(RoofError):
    """A deed has no right kind, number of places or sides."""


class Clash(RoofError):
    """Two packets are not of one day, or both have some house."""


class Short(RoofError):
    """A giver has not the pieces that a deed wants of it."""

    def __init__(self, number):
        super().__init__("a deed wants more pieces than its giver has")
        self.number = number


class Ring(RoofError):
    """Houses would, by a deed, hold one another's shares in a ring."""

    def __init__(self, number, ring):
        super().__init__("houses would hold one another in a ring")
        self.number = number
        self.ring = list(ring)


class BadText(RoofError):
    """A text has a line that nothing right writes."""

    def __init__(self, line):
        super().__init__("a line that nothing right writes")
        self.line = line


class BadForm(RoofError):
    """A text is not a form."""


class Full(RoofError):
    """No more tellings are kept, or no more books given out."""


class Missing(LookupError):
    """What was asked for is not there."""


class NoHouse(Missing):
    """The world has no such house."""

    def __init__(self, name):
        super().__init__(f"no such house: {name!r}")
        self.name = name


class NoCoin(Missing):
    """The world has no such coin."""

    def __init__(self, name):
        super().__init__(f"no such coin: {name!r}")
        self.name = name


class NoRow(Missing):
    """Books have no such row."""

    def __init__(self, name):
        super().__init__(f"no such row: {name!r}")
        self.name = name


class NoTelling(Missing):
    """No deed, number of tellings or given-out book has that number."""

    def __init__(self, number):
        super().__init__("no telling of that number")
        self.number = number


class NotRuled(Missing):
    """A house did not come in: it is the head, or is not ruled."""

    def __init__(self, name):
        super().__init__(f"no house that came in: {name!r}")
        self.name = name


class NoMeasure(ZeroDivisionError):
    """Something was to be parted by a nought."""


class Nothing(IndexError):
    """There is nothing to undo, or nothing to redo."""
