"""Exact fractions, and purses of them by coin. Neither ever changes."""

from math import gcd

from oneroof.errors import NoMeasure


class Part:
    """A fraction in lowest terms; its low is 1 or more."""

    def __init__(self, top, low=1):
        if low == 0:
            raise NoMeasure("parted by a nought")
        common = gcd(top, low)
        if low < 0:
            common = -common
        self.top = top // common
        self.low = low // common

    def plus(self, other):
        return Part(self.top * other.low + other.top * self.low, self.low * other.low)

    def minus(self, other):
        return Part(self.top * other.low - other.top * self.low, self.low * other.low)

    def times(self, other):
        return Part(self.top * other.top, self.low * other.low)

    def over(self, other):
        """This part parted by the other one; NoMeasure where that is nought."""
        return Part(self.top * other.low, self.low * other.top)

    def sign(self):
        if self.top == 0:
            return 0
        return 1 if self.top > 0 else -1

    def __eq__(self, other):
        return isinstance(other, Part) and self.top == other.top and self.low == other.low

    def __repr__(self):
        if self.low == 1:
            return str(self.top)
        return f"{self.top}/{self.low}"


class Purse:
    """A part of each coin; coins of which there is nought are not in it."""

    def __init__(self, rows=()):
        sums = {}
        for coin, part in rows:
            sums[coin] = sums[coin].plus(part) if coin in sums else part
        # Kept by coin's name, so that all that is told of it is sorted.
        self._held = {coin: sums[coin] for coin in sorted(sums) if sums[coin].sign() != 0}

    def at(self, coin):
        return self._held[coin] if coin in self._held else Part(0)

    def coins(self):
        return list(self._held)

    def plus(self, other):
        return Purse(self._rows() + other._rows())

    def minus(self, other):
        return self.plus(other.times(Part(-1)))

    def times(self, part):
        return Purse([(coin, held.times(part)) for coin, held in self._held.items()])

    def worth(self, rates):
        """The worth in whole measures, by rates in thousandths of one."""
        thousandths = Part(0)
        for coin, held in self._held.items():
            thousandths = thousandths.plus(held.times(Part(rates[coin])))
        return thousandths.over(Part(1000))

    def _rows(self):
        return list(self._held.items())

    def __eq__(self, other):
        return isinstance(other, Purse) and self._held == other._held

    def __len__(self):
        return len(self._held)

    def __repr__(self):
        if len(self._held) == 0:
            return "nought"
        return ", ".join([f"{held} {coin}" for coin, held in self._held.items()])
