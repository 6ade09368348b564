"""Points 24 and 25: what houses under a roof are worth, and the parts of the head and of strangers."""

import unittest

from oneroof.owners import share
from oneroof.packets import pack, together
from oneroof.parts import Part, Purse
from oneroof.stakes import own_worth, parts_of, worth_of
from oneroof.states import play
from oneroof.steps import spells
from oneroof.worlds import World
from tests.deeds import Dice, thrown_world, walkable_rows

HOUSES = ("a", "b", "c", "d")


def world():
    return World([("x", 1000), ("y", 250)], [("b", 20), ("a", 10), ("d", 40), ("c", 30)])


def after(*deeds, day=29):
    return play(world(), list(enumerate(deeds, 1)), day)


def purse(**amounts):
    return Purse([(coin, Part(amount)) for coin, amount in amounts.items()])


def parted(coin, top, low):
    return Purse([(coin, Part(top, low))])


def total(purses):
    found = Purse()
    for one in purses:
        found = found.plus(one)
    return found


class OwnWorth(unittest.TestCase):
    def test_of_nothing(self):
        for house in HOUSES:
            self.assertEqual(own_worth(after(), {house: 0}, house), Purse())

    def test_money_and_claims_on_all_houses(self):
        state = after(("fund", 0, "a", "x", 70), ("lend", 1, "a", "b", "x", 5), ("lend", 1, "c", "a", "y", 9),
                      ("lend", 2, "a", "d", "x", 3))
        for since in ({"a": 0}, {"a": 0, "b": 0}, {"a": 0, "b": 0, "c": 1, "d": 2}):
            # What was lent went out of the money, and came in as claim.
            self.assertEqual(own_worth(state, since, "a"), purse(x=70))
        self.assertEqual(state.purse("a"), purse(x=62, y=9))
        self.assertEqual(own_worth(state, {"b": 0}, "b"), Purse())
        state = after(("lend", 1, "a", "b", "x", 5), ("gain", 1, "b", "x", -5))
        self.assertEqual(own_worth(state, {"a": 0, "b": 0}, "b"), purse(x=-5))

    def test_what_its_pieces_of_goods_cost_it(self):
        state = after(("get", 0, "a", "corn", 3, "x", 10), ("sell", 1, "a", "corn", 1, "y", 7),
                      ("get", 1, "b", "rye", 2, "y", 8), ("hand", 2, "b", "a", "rye", 1, "x", 6))
        self.assertEqual(own_worth(state, {"a": 0}, "a"), purse(x=-10 - 6 + 6, y=7).plus(parted("x", 20, 3)))
        self.assertEqual(own_worth(state, {"b": 0}, "b"), purse(x=6, y=-8 + 4))

    def test_shares_of_houses_not_under_the_roof_alone(self):
        state = after(("get", 0, "a", "@b", 15, "x", 60), ("get", 0, "a", "@c", 5, "x", 20), ("gain", 0, "a", "x", 80),
                      ("get", 0, "b", "b", 2, "y", 4))
        self.assertEqual(own_worth(state, {"a": 0}, "a"), purse(x=80))
        self.assertEqual(own_worth(state, {"a": 0, "b": 0}, "a"), purse(x=20))
        self.assertEqual(own_worth(state, {"a": 0, "c": 0}, "a"), purse(x=60))
        self.assertEqual(own_worth(state, {"a": 0, "b": 0, "c": 0}, "a"), Purse())
        # A good that bears a house's name is no share of it.
        self.assertEqual(own_worth(state, {"a": 0, "b": 0}, "b"), Purse())

    def test_less_what_it_gained_by_pieces_that_lie_under_the_roof(self):
        state = after(("get", 1, "a", "corn", 10, "x", 40), ("hand", 1, "a", "b", "corn", 6, "x", 30))
        self.assertEqual(own_worth(state, {"a": 0}, "a"), purse(x=-10 + 16))
        self.assertEqual(own_worth(state, {"a": 0, "b": 0}, "a"), Purse())
        self.assertEqual(own_worth(state, {"a": 0, "b": 0}, "b"), Purse())
        self.assertEqual(own_worth(state, {"a": 0, "b": 1}, "a"), Purse())
        for since in ({"a": 0, "b": 2}, {"a": 2, "b": 0}, {"a": 0, "c": 0}, {"a": 0}):
            self.assertEqual(own_worth(state, since, "a"), purse(x=6))

    def test_gained_no_more_once_the_pieces_are_sold(self):
        deeds = [("get", 1, "a", "corn", 10, "x", 40), ("hand", 1, "a", "b", "corn", 6, "x", 30)]
        for gone, gained in ((2, 4), (5, 1)):
            state = after(*deeds, ("sell", 2, "b", "corn", gone, "x", 50))
            self.assertEqual(own_worth(state, {"a": 0, "b": 0}, "a"), purse(x=6 - gained))
            self.assertEqual(own_worth(state, {"a": 0, "b": 0}, "b"), purse(x=50 - 5 * gone))
        state = after(*deeds, ("hand", 2, "b", "c", "corn", 6, "x", 12))
        self.assertEqual(own_worth(state, {"a": 0, "b": 0}, "a"), purse(x=6))
        self.assertEqual(own_worth(state, {"a": 0, "b": 0, "c": 3}, "a"), purse(x=6))
        self.assertEqual(own_worth(state, {"a": 0, "b": 0, "c": 2}, "a"), Purse())

    def test_pieces_through_several_hands_under_the_roof(self):
        state = after(("get", 1, "a", "corn", 8, "x", 16), ("hand", 2, "a", "b", "corn", 6, "y", 18),
                      ("hand", 3, "b", "c", "corn", 4, "x", 40), ("hand", 4, "c", "a", "corn", 2, "x", 2))
        roof = {"a": 0, "b": 0, "c": 0}
        # a has 2 pieces for 4, and 2 that cost it 2; by the 6 handed on it gained 18 y less 12 x.
        self.assertEqual(own_worth(state, roof, "a"), purse(x=-16 - 2 + 4 + 2 + 12, y=18 - 18))
        self.assertEqual(own_worth(state, roof, "b"), purse(x=40 - 40, y=-18 + 6 + 12))
        self.assertEqual(own_worth(state, roof, "c"), purse(x=-40 + 2 + 20 - (2 - 20)))
        joined = together([pack(world(), STATE_OF_HANDS, house, 29) for house in roof])
        self.assertEqual(joined.things(), total([own_worth(state, roof, house) for house in roof]))
        # b came late: what a handed on before that stays gained, only the two links behind are fresh.
        late = {"a": 0, "b": 3, "c": 0}
        self.assertEqual(own_worth(state, late, "a"), purse(x=-16 - 2 + 4 + 2, y=18))
        self.assertEqual(own_worth(state, late, "b"), purse(y=-18 + 6 + 12))
        self.assertEqual(own_worth(state, late, "c"), purse(x=-40 + 2 + 20 - (2 - 20)))

    def test_outer_shares_through_hands_and_splits(self):
        state = after(("get", 1, "a", "@d", 10, "x", 50), ("hand", 1, "a", "b", "@d", 4, "x", 40), ("split", 2, "d", 3))
        self.assertEqual(own_worth(state, {"a": 0, "b": 0}, "a"), purse(x=-50 + 40 + 30 - 20))
        self.assertEqual(own_worth(state, {"a": 0, "b": 0, "d": 0}, "a"), purse(x=-10))
        self.assertEqual(own_worth(state, {"a": 0, "b": 0, "d": 0}, "b"), purse(x=-40))


STATE_OF_HANDS = list(enumerate((
    ("get", 1, "a", "corn", 8, "x", 16), ("hand", 2, "a", "b", "corn", 6, "y", 18),
    ("hand", 3, "b", "c", "corn", 4, "x", 40), ("hand", 4, "c", "a", "corn", 2, "x", 2),
), 1))


class Worth(unittest.TestCase):
    ROWS = (("fund", 0, "a", "x", 100), ("fund", 0, "b", "x", 60), ("fund", 0, "c", "y", 90), ("fund", 0, "d", "x", 8),
            ("get", 1, "a", "@b", 15, "x", 30), ("get", 1, "a", "@c", 6, "x", 6), ("get", 1, "b", "@c", 12, "x", 12),
            ("get", 1, "c", "@d", 10, "y", 10))

    def test_its_share_of_each_house_under_the_roof(self):
        state = after(*self.ROWS)
        roof = {"a": 0, "b": 0, "c": 0}
        of_c = purse(y=90)
        of_b = purse(x=48).plus(of_c.times(Part(12, 30)))
        of_a = purse(x=64).plus(of_b.times(Part(15, 20))).plus(of_c.times(Part(6, 30)))
        self.assertEqual([worth_of(state, roof, house) for house in "abc"], [of_a, of_b, of_c])
        self.assertEqual(of_a, purse(x=64 + 36, y=27 + 18))

    def test_chains_of_owners_only_through_houses_under_the_roof(self):
        state = after(*self.ROWS)
        # b is not under this roof: its shares of c do not count, what a holds of it stands for its cost.
        self.assertEqual(worth_of(state, {"a": 0, "c": 0}, "a"), purse(x=64 + 30, y=18))
        self.assertEqual(worth_of(state, {"a": 0, "b": 0}, "a"), purse(x=64 + 6 + 45))
        self.assertEqual(worth_of(state, {"a": 0}, "a"), purse(x=100))
        whole = {"a": 0, "b": 0, "c": 0, "d": 0}
        of_c = purse(y=80).plus(purse(x=2))
        self.assertEqual(worth_of(state, whole, "c"), of_c)
        of_b = purse(x=48).plus(of_c.times(Part(12, 30)))
        self.assertEqual(worth_of(state, whole, "a"), purse(x=64).plus(of_b.times(Part(3, 4))).plus(of_c.times(Part(1, 5))))

    def test_worth_below_nought(self):
        state = after(("gain", 0, "b", "x", -30), ("get", 0, "a", "@b", 5, "x", 9))
        self.assertEqual(worth_of(state, {"a": 0, "b": 0}, "a"), purse(x=-9).plus(parted("x", -30, 4)))

    def test_eight_houses_that_hold_all_behind_them(self):
        names = "abcdefgh"
        deeds = [("fund", 0, "h", "x", 7 ** 7)]
        deeds += [("get", 0, top, "@" + low, 1, "x", 0) for at, top in enumerate(names) for low in names[at + 1:]]
        state = play(World([("x", 1)], [(name, 7) for name in names]), list(enumerate(deeds, 1)), 0)
        self.assertEqual(worth_of(state, dict.fromkeys(names, 0), "a"), purse(x=8 ** 6))


class Parts(unittest.TestCase):
    def test_head_first_and_strangers_by_name(self):
        state = after(*Worth.ROWS)
        roof = {"a": 0, "c": 0, "b": 0}
        of_a, of_b, of_c = [worth_of(state, roof, house) for house in "abc"]
        self.assertEqual(parts_of(state, roof, "a"), [("a", of_a), ("b", of_b.times(Part(5, 20))), ("c", of_c.times(Part(12, 30)))])
        state = after(("fund", 0, "a", "x", 90), ("get", 0, "d", "@a", 6, "x", 5))
        self.assertEqual(parts_of(state, {"d": 0, "a": 0}, "d"), [("d", purse(x=-5 + 54)), ("a", purse(x=36))])

    def test_shares_that_houses_not_under_the_roof_hold_are_the_rest(self):
        state = after(("fund", 0, "b", "x", 100), ("get", 0, "a", "@b", 12, "x", 1), ("get", 0, "c", "@b", 7, "x", 1))
        self.assertEqual(parts_of(state, {"a": 0, "b": 0}, "a"), [("a", purse(x=59)), ("b", purse(x=40))])

    def test_all_shares_under_the_roof_leave_nothing(self):
        state = after(("fund", 0, "b", "x", 100), ("get", 0, "a", "@b", 20, "x", 1))
        self.assertEqual(parts_of(state, {"a": 0, "b": 0}, "a"), [("a", purse(x=99)), ("b", Purse())])

    def test_head_alone(self):
        self.assertEqual(parts_of(after(("fund", 0, "a", "x", 5)), {"a": 0}, "a"), [("a", purse(x=5))])

    def test_told_list_is_the_askers_own_and_since_days_stay(self):
        since = {"b": 0, "a": 0}
        state = after(("fund", 0, "b", "x", 100), ("get", 0, "a", "@b", 12, "x", 1))
        told = parts_of(state, since, "a")
        self.assertEqual([type(told)] + [type(row) for row in told], [list, tuple, tuple])
        told.clear()
        self.assertEqual(len(parts_of(state, since, "a")), 2)
        own_worth(state, since, "a")
        worth_of(state, since, "a")
        self.assertEqual(list(since.items()), [("b", 0), ("a", 0)])


def plain_own(state, since, house):
    """Own worth piece by piece, with nothing of the program's paths."""
    found = state.purse(house)
    for other in HOUSES:
        found = found.plus(state.claim(house, other))
    for holder in since:
        for thing in ("corn", "b") + tuple("@" + other for other in HOUSES if other not in since):
            for count, path in state.pieces(holder, thing):
                paid = [Purse([(link[4], Part(count * link[5], link[6]))]) for link in path]
                if holder == house:
                    found = found.plus(paid[-1])
                at = len(path) - 1
                while all(side in since and since[side] <= path[at][1] for side in path[at][2:4]):
                    if path[at][2] == house:
                        found = found.minus(paid[at]).plus(paid[at - 1])
                    at -= 1
    return found


class ThrownRoofs(unittest.TestCase):
    def test_own_worth_and_worth_of_any_houses(self):
        met = 0
        for seed in range(40):
            dice = Dice(seed + 77)
            state = play(thrown_world(), walkable_rows(seed), 4)
            for size in (1, 2, 3, 4):
                roof = {house: dice.among(0, 4) for house in dice.shuffled(HOUSES)[:size]}
                for house in roof:
                    with self.subTest(seed=seed, roof=roof, house=house):
                        own = own_worth(state, roof, house)
                        self.assertEqual(own, plain_own(state, roof, house))
                        met += own != plain_own(state, {house: 0}, house)
                        held = [worth_of(state, roof, other).times(share(state, [house], other))
                                for other in roof if state.many(house, "@" + other) > 0]
                        self.assertEqual(worth_of(state, roof, house), own.plus(total(held)))
        self.assertGreater(met, 20)

    def test_parts_come_to_the_things_of_the_joined_packet(self):
        met = 0
        for seed in range(40):
            rows = walkable_rows(seed)
            for day in range(5):
                state = play(thrown_world(), rows, day)
                for head in HOUSES:
                    since = spells(thrown_world(), rows, head, day)
                    parts = parts_of(state, since, head)
                    packets = [pack(thrown_world(), rows, house, day, since=since[house]) for house in since]
                    with self.subTest(seed=seed, head=head, day=day):
                        self.assertEqual([house for house, _ in parts], [head] + sorted(set(since) - {head}))
                        self.assertEqual(total([part for _, part in parts]), together(packets).things())
                    met += len(since) > 1
        self.assertGreater(met, 100)


if __name__ == "__main__":
    unittest.main()
