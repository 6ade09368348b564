"""Points 10 to 14 and 31, with the deeds of point 7 and the links of point 11: how the days go."""

import unittest

from oneroof.errors import BadDay, Ring, Short
from oneroof.parts import Part, Purse
from oneroof.states import State, play
from oneroof.worlds import MOST_DEEDS, World
from tests.deeds import Dice, thrown_rows, thrown_world, walk_order, walkable_rows

HOUSES = ("a", "b", "c", "d")


def world():
    return World([("x", 1000), ("y", 250)], [("b", 20), ("a", 10), ("d", 40), ("c", 30)])


def numbered(*deeds):
    """The deeds with numbers by their order."""
    return list(enumerate(deeds, 1))


def after(*deeds, day=29):
    return play(world(), numbered(*deeds), day)


def purse(**amounts):
    return Purse([(coin, Part(amount)) for coin, amount in amounts.items()])


class Refusing(unittest.TestCase):
    def refused(self, error, fields, *deeds, day=29):
        self.refused_rows(error, fields, numbered(*deeds), day)

    def refused_rows(self, error, fields, rows, day=29):
        with self.assertRaises(error) as caught:
            play(world(), rows, day)
        self.assertIs(type(caught.exception), error)
        self.assertEqual(vars(caught.exception), fields)


class AtFirst(unittest.TestCase):
    def test_nobody_has_anything_and_strangers_hold_all_shares(self):
        for day in (0, 13, 29):
            state = play(world(), [], day)
            self.assertIsInstance(state, State)
            self.assertEqual(state.day, day)
            for house, made in world().house_rows():
                self.assertEqual(state.purse(house), Purse())
                self.assertEqual((state.made(house), state.free(house)), (made, made))
                for other in HOUSES:
                    self.assertEqual(state.claim(house, other), Purse())
                    self.assertEqual(state.pieces(house, "@" + other), [])
                    self.assertEqual(state.many(house, "@" + other), 0)
                self.assertEqual(state.pieces(house, "corn"), [])
                self.assertEqual(state.many(house, "corn"), 0)

    def test_rates_are_the_worlds(self):
        self.assertEqual((after().rate("x"), after().rate("y")), (1000, 250))


class Days(Refusing):
    def test_wrong_days(self):
        for day in (-1, 30, -30, 100, 10 ** 6000):
            self.refused(BadDay, {"day": day}, day=day)

    def test_wrong_day_before_the_walk(self):
        short = ("sell", 0, "a", "corn", 1, "x", 1)
        self.refused(BadDay, {"day": 30}, short, day=30)
        self.refused(BadDay, {"day": -1}, short, day=-1)

    def test_walk_goes_to_the_end_of_the_day(self):
        deeds = [("fund", day, "a", "x", 2 ** day) for day in range(30)]
        for day in range(30):
            state = play(world(), numbered(*deeds), day)
            self.assertEqual(state.purse("a"), purse(x=2 ** (day + 1) - 1))
            self.assertEqual(state.day, day)

    def test_deeds_of_later_days_are_not_looked_at(self):
        for late in (
            ("sell", 4, "a", "corn", 1, "x", 1),
            ("get", 4, "a", "@a", 1, "x", 1),
            ("get", 4, "a", "@b", 21, "x", 1),
            ("hand", 4, "a", "b", "corn", 9, "x", 1),
            ("split", 4, "b", 3),
            ("rate", 4, "x", 5),
            ("pay", 4, "b", "x", 5),
        ):
            state = after(("get", 3, "a", "corn", 5, "x", 10), late, ("sell", 4, "a", "corn", 6, "x", 1), day=3)
            self.assertEqual(state.pieces("a", "corn"), [(5, ((1, 3, "", "a", "x", 10, 5),))])
            self.assertEqual((state.made("b"), state.rate("x"), state.purse("b")), (20, 1000, Purse()))
            self.refused(Short, {"number": 3}, ("get", 3, "a", "corn", 5, "x", 10),
                         ("fee", 4, "a", "b", "x", 1), ("sell", 4, "a", "corn", 6, "x", 1), day=4)


class Order(Refusing):
    def test_day_by_day_and_by_rising_number(self):
        get, sell = ("get", 2, "a", "corn", 1, "x", 5), ("sell", 2, "a", "corn", 1, "x", 5)
        self.refused_rows(Short, {"number": 9}, [(10, get), (9, sell)])
        self.refused_rows(Short, {"number": 9}, [(9, sell), (10, get)])
        play(world(), [(10, sell), (9, get)], 2)
        play(world(), [(9, get), (10, sell)], 2)
        play(world(), [(2, sell), (10, get[:1] + (1,) + get[2:])], 2)
        self.refused_rows(Short, {"number": 2}, [(2, sell[:1] + (1,) + sell[2:]), (10, get), (1, get)])

    def test_first_refusal_of_the_walk(self):
        rows = [
            (4, ("sell", 5, "a", "corn", 1, "x", 5)),
            (7, ("get", 3, "a", "@a", 1, "x", 5)),
            (6, ("sell", 4, "a", "corn", 1, "x", 5)),
            (8, ("sell", 3, "a", "corn", 1, "x", 5)),
        ]
        for turned in (rows, rows[::-1], rows[2:] + rows[:2]):
            self.refused_rows(Ring, {"number": 7, "ring": ["a"]}, turned)
            self.refused_rows(Short, {"number": 8}, [row for row in turned if row[0] != 7])
            self.refused_rows(Short, {"number": 6}, [row for row in turned if row[0] not in (7, 8)])

    def test_sixty_deeds_in_any_order(self):
        deeds = []
        for at in range(20):
            deeds.append(("get", at, "a", "corn", 3, "x", at))
            deeds.append(("hand", at, "a", "b", "corn", 2, "y", 1))
            deeds.append(("rate", at, "x", 5 + at))
        rows = numbered(*deeds)
        self.assertEqual(len(rows), MOST_DEEDS)
        for seed in range(4):
            state = play(world(), Dice(seed).shuffled(rows), 29)
            self.assertEqual((state.many("a", "corn"), state.many("b", "corn")), (20, 40))
            self.assertEqual(state.purse("a"), purse(x=-sum(range(20)), y=20))
            self.assertEqual(state.purse("b"), purse(y=-20))
            self.assertEqual(state.rate("x"), 24)
            # The eldest go first: the last ones left are those of the last seven gets.
            self.assertEqual([path[0][1] for _, path in state.pieces("a", "corn")], list(range(13, 20)))
            self.assertEqual([count for count, _ in state.pieces("a", "corn")], [2, 3, 3, 3, 3, 3, 3])

    def test_numbers_with_gaps_stand_in_links_and_refusals(self):
        rows = [(300, ("get", 1, "a", "corn", 1, "x", 5)), (70, ("get", 1, "a", "corn", 2, "x", 5))]
        told = play(world(), rows, 1).pieces("a", "corn")
        self.assertEqual(told, [(2, ((70, 1, "", "a", "x", 5, 2),)), (1, ((300, 1, "", "a", "x", 5, 1),))])
        self.refused_rows(Short, {"number": 999}, rows + [(999, ("sell", 1, "a", "corn", 4, "x", 1))])


class Money(unittest.TestCase):
    def test_fund_and_gain(self):
        for kind in ("fund", "gain"):
            state = after((kind, 3, "a", "x", 500), (kind, 3, "a", "y", -70), (kind, 4, "a", "x", -600))
            self.assertEqual(state.purse("a"), purse(x=-100, y=-70))
            self.assertEqual(state.purse("b"), Purse())

    def test_get_sell_and_hand(self):
        state = after(("get", 1, "a", "corn", 10, "x", 30), ("sell", 1, "a", "corn", 2, "y", 7),
                      ("hand", 2, "a", "b", "corn", 3, "x", 11), ("get", 2, "c", "@d", 5, "y", 4),
                      ("sell", 3, "c", "@d", 2, "x", 9), ("hand", 3, "c", "b", "@d", 1, "y", 8))
        self.assertEqual(state.purse("a"), purse(x=-19, y=7))
        self.assertEqual(state.purse("b"), purse(x=-11, y=-8))
        self.assertEqual(state.purse("c"), purse(x=9, y=4))
        self.assertEqual(state.purse("d"), Purse())

    def test_for_nought(self):
        state = after(("get", 1, "a", "corn", 2, "x", 0), ("hand", 1, "a", "b", "corn", 2, "x", 0),
                      ("sell", 1, "b", "corn", 1, "x", 0))
        self.assertEqual((state.purse("a"), state.purse("b")), (Purse(), Purse()))
        self.assertEqual((state.many("a", "corn"), state.many("b", "corn")), (0, 1))

    def test_fee(self):
        state = after(("fee", 1, "a", "b", "x", 30), ("fee", 2, "b", "a", "y", 4))
        self.assertEqual((state.purse("a"), state.purse("b")), (purse(x=-30, y=4), purse(x=30, y=-4)))
        self.assertEqual((state.claim("a", "b"), state.claim("b", "a")), (Purse(), Purse()))

    def test_lend(self):
        state = after(("lend", 1, "a", "b", "x", 30), ("lend", 2, "a", "c", "y", 4))
        self.assertEqual((state.claim("a", "b"), state.claim("b", "a")), (purse(x=30), purse(x=-30)))
        self.assertEqual((state.claim("a", "c"), state.claim("c", "a")), (purse(y=4), purse(y=-4)))
        self.assertEqual((state.claim("b", "c"), state.claim("a", "a")), (Purse(), Purse()))
        self.assertEqual([state.purse(house) for house in HOUSES[:3]], [purse(x=-30, y=-4), purse(x=30), purse(y=4)])

    def test_paid_back_and_more(self):
        lent = ("lend", 1, "a", "b", "x", 30)
        self.assertEqual(after(lent, ("lend", 2, "b", "a", "x", 30)).claim("a", "b"), Purse())
        state = after(lent, ("lend", 2, "b", "a", "x", 50), ("lend", 2, "b", "a", "y", 1))
        self.assertEqual((state.claim("a", "b"), state.claim("b", "a")), (purse(x=-20, y=-1), purse(x=20, y=1)))
        self.assertEqual((state.purse("a"), state.purse("b")), (purse(x=20, y=1), purse(x=-20, y=-1)))

    def test_rate_from_the_deed_on(self):
        rows = [(8, ("rate", 2, "x", 7)), (5, ("rate", 2, "x", 9)), (3, ("rate", 4, "x", 11)), (2, ("rate", 3, "y", 1))]
        for day, wanted in ((0, (1000, 250)), (1, (1000, 250)), (2, (7, 250)), (3, (7, 1)), (4, (11, 1)), (29, (11, 1))):
            state = play(world(), rows, day)
            self.assertEqual((state.rate("x"), state.rate("y")), wanted)

    def test_coin_and_house_of_one_name(self):
        state = play(World([("a", 5)], [("a", 1), ("b", 1)]), numbered(("fee", 0, "b", "a", "a", 3)), 0)
        self.assertEqual((state.purse("a"), state.purse("b"), state.rate("a")), (purse(a=3), purse(a=-3), 5))


class Pieces(Refusing):
    def test_links_from_hand_to_hand(self):
        state = after(("get", 1, "a", "corn", 9, "x", 30), ("hand", 2, "a", "b", "corn", 9, "y", 40),
                      ("hand", 3, "b", "c", "corn", 9, "x", 50), ("hand", 4, "c", "a", "corn", 9, "x", 60))
        got, to_b = (1, 1, "", "a", "x", 30, 9), (2, 2, "a", "b", "y", 40, 9)
        to_c, back = (3, 3, "b", "c", "x", 50, 9), (4, 4, "c", "a", "x", 60, 9)
        self.assertEqual(state.pieces("a", "corn"), [(9, (got, to_b, to_c, back))])
        self.assertEqual((state.pieces("b", "corn"), state.pieces("c", "corn")), ([], []))

    def test_eldest_first_and_only_in_part(self):
        got = (("get", 1, "a", "corn", 4, "x", 8), ("get", 1, "a", "corn", 3, "y", 9), ("get", 2, "a", "corn", 5, "x", 1))
        paths = [((1, 1, "", "a", "x", 8, 4),), ((2, 1, "", "a", "y", 9, 3),), ((3, 2, "", "a", "x", 1, 5),)]
        for count, kept in (
            (1, [3, 3, 5]), (3, [1, 3, 5]), (4, [0, 3, 5]), (5, [0, 2, 5]), (7, [0, 0, 5]), (8, [0, 0, 4]),
            (11, [0, 0, 1]), (12, [0, 0, 0]),
        ):
            given = [4 - kept[0], 3 - kept[1], 5 - kept[2]]
            link = (4, 3, "a", "b", "x", 6, count)
            with self.subTest(count=count):
                state = after(*got, ("hand", 3, "a", "b", "corn", count, "x", 6))
                self.assertEqual(state.pieces("a", "corn"), [row for row in zip(kept, paths) if row[0] > 0])
                wanted = [(many, path + (link,)) for many, path in zip(given, paths) if many > 0]
                self.assertEqual(state.pieces("b", "corn"), wanted)
                self.assertEqual((state.many("a", "corn"), state.many("b", "corn")), (12 - count, count))
                sold = after(*got, ("sell", 3, "a", "corn", count, "x", 6))
                self.assertEqual(sold.pieces("a", "corn"), state.pieces("a", "corn"))
                self.assertEqual(sold.many("b", "corn"), 0)

    def test_eldest_are_those_that_the_house_got_first(self):
        # What b got of a is younger at b than what b got itself later in the world's time.
        state = after(("get", 1, "a", "corn", 2, "x", 8), ("get", 2, "b", "corn", 2, "x", 9),
                      ("hand", 3, "a", "b", "corn", 2, "x", 7), ("sell", 4, "b", "corn", 1, "x", 1))
        self.assertEqual([(count, path[0][0]) for count, path in state.pieces("b", "corn")], [(1, 2), (2, 1)])

    def test_twice_a_part_of_the_same_pieces(self):
        state = after(("get", 1, "a", "corn", 9, "x", 30), ("hand", 2, "a", "b", "corn", 2, "x", 4),
                      ("hand", 2, "a", "b", "corn", 3, "x", 5))
        got = (1, 1, "", "a", "x", 30, 9)
        self.assertEqual(state.pieces("a", "corn"), [(4, (got,))])
        self.assertEqual(state.pieces("b", "corn"), [(2, (got, (2, 2, "a", "b", "x", 4, 2))),
                                                     (3, (got, (3, 2, "a", "b", "x", 5, 3)))])

    def test_same_pieces_by_several_ways_in_one_deed(self):
        state = after(("get", 1, "a", "corn", 9, "x", 30), ("hand", 2, "a", "b", "corn", 2, "x", 4),
                      ("hand", 3, "b", "a", "corn", 1, "x", 5), ("hand", 4, "a", "b", "corn", 8, "x", 6))
        got, to_b, back = (1, 1, "", "a", "x", 30, 9), (2, 2, "a", "b", "x", 4, 2), (3, 3, "b", "a", "x", 5, 1)
        last = (4, 4, "a", "b", "x", 6, 8)
        self.assertEqual(state.pieces("b", "corn"), [(1, (got, to_b)), (7, (got, last)), (1, (got, to_b, back, last))])

    def test_things_of_like_names_are_kept_apart(self):
        state = after(("get", 1, "a", "b", 4, "x", 8), ("get", 1, "a", "@b", 3, "x", 9), ("get", 1, "b", "corn", 2, "x", 1))
        self.assertEqual([state.many("a", thing) for thing in ("b", "@b", "corn")], [4, 3, 0])
        self.assertEqual([state.many("b", thing) for thing in ("b", "@b", "corn")], [0, 0, 2])
        self.refused(Short, {"number": 2}, ("get", 1, "a", "b", 4, "x", 8), ("sell", 1, "a", "@b", 1, "x", 8))

    def test_strangers_have_goods_without_end(self):
        deeds = [("get", 1, "a", "corn", 1000000, "x", 1)] * 5
        self.assertEqual(after(*deeds).many("a", "corn"), 5000000)
        self.assertEqual(len(after(*deeds).pieces("a", "corn")), 5)


class Shares(Refusing):
    def test_get_takes_of_strangers_and_sell_gives_back(self):
        state = after(("get", 1, "a", "@b", 15, "x", 3), ("get", 1, "c", "@b", 2, "x", 3))
        self.assertEqual((state.made("b"), state.free("b")), (20, 3))
        state = after(("get", 1, "a", "@b", 15, "x", 3), ("sell", 1, "a", "@b", 6, "x", 3))
        self.assertEqual((state.made("b"), state.free("b"), state.many("a", "@b")), (20, 11, 9))

    def test_hand_leaves_strangers_theirs(self):
        state = after(("get", 1, "a", "@b", 15, "x", 3), ("hand", 1, "a", "c", "@b", 6, "x", 3))
        self.assertEqual((state.free("b"), state.many("a", "@b"), state.many("c", "@b")), (5, 9, 6))

    def test_all_of_the_shares_and_one_more(self):
        self.assertEqual(after(("get", 1, "a", "@b", 20, "x", 3)).free("b"), 0)
        self.refused(Short, {"number": 1}, ("get", 1, "a", "@b", 21, "x", 3))
        self.refused(Short, {"number": 2}, ("get", 1, "a", "@b", 15, "x", 3), ("get", 1, "c", "@b", 6, "x", 3))
        after(("get", 1, "a", "@b", 15, "x", 3), ("get", 1, "c", "@b", 5, "x", 3))
        given_back = (("get", 1, "a", "@b", 20, "x", 3), ("sell", 1, "a", "@b", 4, "x", 3))
        after(*given_back, ("get", 1, "c", "@b", 4, "x", 3))
        self.refused(Short, {"number": 3}, *given_back, ("get", 1, "c", "@b", 5, "x", 3))

    def test_short_of_pieces(self):
        got = ("get", 1, "a", "corn", 5, "x", 3)
        after(got, ("sell", 1, "a", "corn", 5, "x", 3))
        after(got, ("hand", 1, "a", "b", "corn", 5, "x", 3))
        for deed in (("sell", 1, "a", "corn", 6, "x", 3), ("hand", 1, "a", "b", "corn", 6, "x", 3),
                     ("sell", 1, "b", "corn", 1, "x", 3), ("hand", 1, "b", "a", "corn", 1, "x", 3),
                     ("sell", 1, "a", "rye", 1, "x", 3), ("hand", 1, "a", "b", "@c", 1, "x", 3)):
            self.refused(Short, {"number": 2}, got, deed)
        self.refused(Short, {"number": 3}, got, ("sell", 1, "a", "corn", 2, "x", 3), ("sell", 1, "a", "corn", 4, "x", 3))


class Rings(Refusing):
    def test_shares_of_itself(self):
        self.refused(Ring, {"number": 1, "ring": ["a"]}, ("get", 1, "a", "@a", 1, "x", 3))
        self.refused(Ring, {"number": 2, "ring": ["a"]}, ("get", 1, "b", "@a", 1, "x", 3),
                     ("hand", 1, "b", "a", "@a", 1, "x", 3))
        self.refused(Ring, {"number": 2, "ring": ["a"]}, ("get", 1, "b", "@a", 2, "x", 3),
                     ("hand", 1, "b", "a", "@a", 1, "x", 3))

    def test_of_two_houses(self):
        self.refused(Ring, {"number": 2, "ring": ["b", "a"]}, ("get", 1, "a", "@b", 1, "x", 3),
                     ("get", 1, "b", "@a", 1, "x", 3))
        self.refused(Ring, {"number": 3, "ring": ["b", "a"]}, ("get", 1, "a", "@b", 1, "x", 3),
                     ("get", 1, "c", "@a", 1, "x", 3), ("hand", 1, "c", "b", "@a", 1, "x", 3))

    def test_of_three_and_four_houses(self):
        row = (("get", 1, "c", "@d", 1, "x", 3), ("get", 1, "a", "@b", 1, "x", 3), ("get", 1, "b", "@c", 1, "x", 3))
        self.refused(Ring, {"number": 4, "ring": ["d", "a", "b", "c"]}, *row, ("get", 2, "d", "@a", 1, "x", 3))
        self.refused(Ring, {"number": 4, "ring": ["d", "b", "c"]}, *row, ("get", 2, "d", "@b", 1, "x", 3))
        self.refused(Ring, {"number": 4, "ring": ["c", "a", "b"]}, *row, ("get", 2, "c", "@a", 1, "x", 3))

    def test_closed_by_a_hand_of_the_only_shares(self):
        # The giver keeps nothing, so it stands in no ring behind the deed.
        self.refused(Ring, {"number": 4, "ring": ["c", "a", "b"]}, ("get", 1, "a", "@b", 1, "x", 3),
                     ("get", 1, "d", "@a", 1, "x", 3), ("get", 1, "b", "@c", 1, "x", 3),
                     ("hand", 2, "d", "c", "@a", 1, "x", 3))

    def test_of_several_rings_any_one(self):
        with self.assertRaises(Ring) as caught:
            after(("get", 1, "a", "@b", 1, "x", 3), ("get", 1, "a", "@c", 1, "x", 3), ("get", 1, "b", "@d", 1, "x", 3),
                  ("get", 1, "c", "@d", 1, "x", 3), ("get", 1, "d", "@a", 1, "x", 3))
        self.assertEqual(caught.exception.number, 5)
        self.assertIn(caught.exception.ring, (["d", "a", "b"], ["d", "a", "c"]))

    def test_short_goes_ahead(self):
        self.refused(Short, {"number": 1}, ("get", 1, "a", "@a", 11, "x", 3))
        self.refused(Short, {"number": 1}, ("hand", 1, "b", "a", "@a", 1, "x", 3))
        self.refused(Short, {"number": 2}, ("get", 1, "a", "@b", 1, "x", 3), ("get", 1, "b", "@a", 11, "x", 3))
        self.refused(Short, {"number": 3}, ("get", 1, "a", "@b", 1, "x", 3), ("get", 1, "c", "@a", 1, "x", 3),
                     ("hand", 1, "c", "b", "@a", 2, "x", 3))

    def test_no_ring_once_the_shares_are_gone(self):
        for gone in (("sell", 1, "a", "@b", 2, "x", 3), ("hand", 1, "a", "c", "@b", 2, "x", 3)):
            state = after(("get", 1, "a", "@b", 2, "x", 3), gone, ("get", 1, "b", "@a", 1, "x", 3))
            self.assertEqual(state.many("b", "@a"), 1)
        self.refused(Ring, {"number": 3, "ring": ["b", "a"]}, ("get", 1, "a", "@b", 2, "x", 3),
                     ("sell", 1, "a", "@b", 1, "x", 3), ("get", 1, "b", "@a", 1, "x", 3))

    def test_several_ways_down_are_no_ring(self):
        state = after(("get", 1, "a", "@b", 2, "x", 3), ("get", 1, "a", "@c", 2, "x", 3), ("get", 1, "b", "@c", 2, "x", 3),
                      ("hand", 1, "a", "b", "@c", 1, "x", 3), ("hand", 1, "b", "a", "@c", 1, "x", 3))
        self.assertEqual((state.many("a", "@c"), state.many("b", "@c")), (2, 2))

    def test_goods_that_bear_a_houses_name_close_none(self):
        self.assertEqual(after(("get", 1, "a", "a", 2, "x", 3)).many("a", "a"), 2)


class Splits(unittest.TestCase):
    def test_pieces_shares_and_counts_in_links_wherever_they_lie(self):
        state = after(("get", 1, "a", "@b", 8, "x", 40), ("hand", 2, "a", "c", "@b", 3, "y", 9), ("split", 3, "b", 4),
                      ("hand", 4, "a", "d", "@b", 5, "x", 1), ("split", 5, "b", 2))
        got, to_c = (1, 1, "", "a", "x", 40, 64), (2, 2, "a", "c", "y", 9, 24)
        self.assertEqual((state.made("b"), state.free("b")), (160, 96))
        self.assertEqual(state.pieces("a", "@b"), [(30, (got,))])
        self.assertEqual(state.pieces("c", "@b"), [(24, (got, to_c))])
        self.assertEqual(state.pieces("d", "@b"), [(10, (got, (4, 4, "a", "d", "x", 1, 10)))])

    def test_only_shares_of_that_house(self):
        state = after(("get", 1, "a", "@b", 8, "x", 40), ("get", 1, "a", "@c", 8, "x", 40), ("get", 1, "a", "b", 8, "x", 40),
                      ("get", 1, "b", "corn", 8, "x", 40), ("split", 3, "b", 9))
        self.assertEqual([state.many("a", thing) for thing in ("@b", "@c", "b")], [72, 8, 8])
        self.assertEqual([state.made(house) for house in HOUSES], [10, 180, 30, 40])
        self.assertEqual([state.free(house) for house in HOUSES], [10, 108, 22, 40])
        self.assertEqual(state.pieces("b", "corn"), [(8, ((4, 1, "", "b", "x", 40, 8),))])
        self.assertEqual(state.purse("a"), purse(x=-120))

    def test_of_nothing_but_strangers_shares(self):
        state = after(("split", 3, "b", 2), ("split", 3, "b", 3), ("get", 3, "a", "@b", 120, "x", 5))
        self.assertEqual((state.made("b"), state.free("b")), (120, 0))
        self.assertEqual(state.pieces("a", "@b"), [(120, ((3, 3, "", "a", "x", 5, 120),))])

    def test_from_the_deed_on(self):
        rows = [(4, ("split", 3, "b", 2)), (2, ("get", 3, "a", "@b", 2, "x", 5)), (6, ("get", 3, "a", "@b", 2, "x", 5))]
        self.assertEqual(play(world(), rows, 3).pieces("a", "@b"),
                         [(4, ((2, 3, "", "a", "x", 5, 4),)), (2, ((6, 3, "", "a", "x", 5, 2),))])

    def test_pieces_are_counted_however_many_they_become(self):
        deeds = [("get", 0, "a", "@b", 7, "x", 5)] + [("split", 1, "b", 9)] * 58 + [("pay", 2, "b", "y", 1000000)]
        state = after(*deeds)
        grown = 9 ** 58
        self.assertEqual((state.made("b"), state.free("b"), state.many("a", "@b")), (20 * grown, 13 * grown, 7 * grown))
        self.assertEqual(state.pieces("a", "@b"), [(7 * grown, ((1, 0, "", "a", "x", 5, 7 * grown),))])
        self.assertEqual(state.purse("a"), purse(x=-5, y=7000000 * grown))
        self.assertEqual(state.purse("b"), purse(y=-20000000 * grown))


class Payments(unittest.TestCase):
    def test_by_share_to_houses_and_strangers(self):
        state = after(("get", 1, "a", "@c", 7, "x", 1), ("get", 1, "b", "@c", 5, "x", 1), ("get", 1, "b", "@d", 5, "x", 1),
                      ("pay", 2, "c", "y", 3))
        self.assertEqual([state.purse(house) for house in HOUSES], [purse(x=-1, y=21), purse(x=-2, y=15), purse(y=-90), Purse()])

    def test_to_strangers_alone_and_to_houses_alone(self):
        self.assertEqual(after(("pay", 2, "c", "x", 2)).purse("c"), purse(x=-60))
        state = after(("get", 1, "a", "@c", 30, "y", 1), ("pay", 2, "c", "x", 2))
        self.assertEqual((state.purse("c"), state.purse("a")), (purse(x=-60), purse(x=60, y=-1)))

    def test_by_the_shares_held_then(self):
        rows = [(5, ("pay", 2, "c", "y", 1)), (4, ("get", 2, "a", "@c", 3, "x", 1)), (6, ("split", 2, "c", 2)),
                (7, ("pay", 2, "c", "y", 1)), (8, ("sell", 2, "a", "@c", 5, "x", 1)), (9, ("pay", 2, "c", "y", 1))]
        state = play(world(), rows, 2)
        self.assertEqual((state.purse("a"), state.purse("c")), (purse(y=3 + 6 + 1), purse(y=-30 - 60 - 60)))


class OwnLists(unittest.TestCase):
    def test_handed_rows_and_world_stay(self):
        ground, rows = world(), numbered(("split", 3, "b", 2), ("get", 1, "a", "@b", 2, "x", 5), ("rate", 1, "x", 5))
        before = list(rows)
        play(ground, rows, 29)
        self.assertEqual(rows, before)
        self.assertEqual((ground.coin_rows(), ground.house_rows()), (world().coin_rows(), world().house_rows()))

    def test_handed_rows_are_not_kept(self):
        rows = numbered(("get", 1, "a", "corn", 2, "x", 5))
        state = play(world(), rows, 29)
        rows.clear()
        self.assertEqual(state.many("a", "corn"), 2)

    def test_told_lists_are_the_askers_own(self):
        state = after(("get", 1, "a", "corn", 2, "x", 5))
        told = state.pieces("a", "corn")
        self.assertIsInstance(told, list)
        self.assertEqual([type(part) for part in (told[0], told[0][1], told[0][1][0])], [tuple, tuple, tuple])
        told.clear()
        state.pieces("b", "rye").append((3, ()))
        self.assertEqual((state.many("a", "corn"), state.many("b", "rye")), (2, 0))
        self.assertEqual(state.pieces("a", "corn"), [(2, ((1, 1, "", "a", "x", 5, 2),))])


class PlainWalk:
    """The walk with each piece by itself, to set beside the program's."""

    def __init__(self):
        ground = thrown_world()
        self.rates, self.made = dict(ground.coin_rows()), dict(ground.house_rows())
        self.money, self.claims, self.pieces = {}, {}, {}

    def pay(self, house, coin, amount):
        self.money[house, coin] = self.money.get((house, coin), 0) + amount

    def lot(self, house, thing):
        return self.pieces.setdefault((house, thing), [])

    def free(self, house):
        return self.made[house] - sum(len(self.lot(other, "@" + house)) for other in HOUSES)

    def do(self, number, deed):
        """What the deed is refused for, or None."""
        kind, day, *places = deed
        if kind in ("get", "sell", "hand"):
            giver = "" if kind == "get" else places[0]
            taker = "" if kind == "sell" else places[-5]
            return self.trade(number, day, giver, taker, *places[-4:])
        getattr(self, "do_" + kind)(*places)
        return None

    def do_rate(self, coin, rate):
        self.rates[coin] = rate

    def do_fund(self, house, coin, amount):
        self.pay(house, coin, amount)

    do_gain = do_fund

    def do_lend(self, giver, taker, coin, amount):
        self.do_fee(giver, taker, coin, amount)
        self.claims[giver, taker, coin] = self.claims.get((giver, taker, coin), 0) + amount
        self.claims[taker, giver, coin] = self.claims.get((taker, giver, coin), 0) - amount

    def do_fee(self, payer, payee, coin, amount):
        self.pay(payer, coin, -amount)
        self.pay(payee, coin, amount)

    def do_split(self, house, times):
        self.made[house] *= times
        for holder in HOUSES:
            grown = []
            for path in self.lot(holder, "@" + house):
                grown += [tuple(link[:6] + (link[6] * times,) for link in path)] * times
            self.pieces[holder, "@" + house] = grown

    def do_pay(self, house, coin, per):
        self.pay(house, coin, -per * self.made[house])
        for holder in HOUSES:
            for _ in self.lot(holder, "@" + house):
                self.pay(holder, coin, per)

    def trade(self, number, day, giver, taker, thing, count, coin, price):
        if giver:
            if len(self.lot(giver, thing)) < count:
                return (Short, number)
            gone = [self.lot(giver, thing).pop(0) for _ in range(count)]
            self.pay(giver, coin, price)
        else:
            if thing[0] == "@" and self.free(thing[1:]) < count:
                return (Short, number)
            gone = [()] * count
        if taker:
            link = (number, day, giver, taker, coin, price, count)
            self.lot(taker, thing).extend([path + (link,) for path in gone])
            self.pay(taker, coin, -price)
        return (Ring, number) if any(self.reaches(house, house) for house in HOUSES) else None

    def reaches(self, top, low):
        front, seen = [top], []
        while front:
            house = front.pop()
            for other in HOUSES:
                if self.lot(house, "@" + other) and other not in seen:
                    seen.append(other)
                    front.append(other)
        return low in seen

    def told(self, house, thing):
        rows = []
        for path in self.lot(house, thing):
            if rows and rows[-1][1] == path:
                rows[-1] = (rows[-1][0] + 1, path)
            else:
                rows.append((1, path))
        return rows


class ThrownRows(unittest.TestCase):
    def same(self, state, plain):
        for coin, rate in plain.rates.items():
            self.assertEqual(state.rate(coin), rate)
        for house in HOUSES:
            self.assertEqual((state.made(house), state.free(house)), (plain.made[house], plain.free(house)))
            money = Purse([(coin, Part(plain.money.get((house, coin), 0))) for coin in ("x", "y")])
            self.assertEqual(state.purse(house), money)
            for other in HOUSES:
                claim = Purse([(coin, Part(plain.claims.get((house, other, coin), 0))) for coin in ("x", "y")])
                self.assertEqual(state.claim(house, other), claim)
            for thing in ("corn", "b", "@a", "@b", "@c", "@d"):
                self.assertEqual(state.pieces(house, thing), plain.told(house, thing))
                self.assertEqual(state.many(house, thing), len(plain.lot(house, thing)))

    def ring_holds(self, plain, deed, ring):
        taker = deed[-5]
        self.assertEqual((ring[0], len(set(ring))), (taker, len(ring)))
        for house, other in zip(ring, ring[1:] + ring[:1]):
            self.assertTrue(plain.lot(house, "@" + other))

    def test_rows_that_are_walked_to_the_end(self):
        for seed in range(60):
            rows = walkable_rows(seed)
            for day in range(5):
                plain = PlainWalk()
                for number, deed in walk_order(rows, day):
                    self.assertIsNone(plain.do(number, deed))
                with self.subTest(seed=seed, day=day):
                    self.same(play(thrown_world(), rows, day), plain)

    def test_rows_that_may_be_refused(self):
        met = []
        for seed in range(200):
            met.append(self.walked_alike(thrown_rows(Dice(seed), 2 + seed // 20, 2)))
        for kind in (None, Short, Ring):
            self.assertGreater(met.count(kind), 10)

    def test_walked_rows_and_one_more_get_or_hand_of_shares(self):
        met = []
        for seed in range(30):
            rows = walkable_rows(seed)
            for house in HOUSES:
                for taker in HOUSES:
                    for kind in (("get", 29), ("hand", 29, "a"), ("hand", 29, "b"), ("hand", 29, "c"), ("hand", 29, "d")):
                        if kind[-1] != taker:
                            deed = kind + (taker, "@" + house, 1, "x", 1)
                            met.append(self.walked_alike(rows + [(1000, deed)]))
        for kind in (None, Short, Ring):
            self.assertGreater(met.count(kind), 100)

    def walked_alike(self, rows):
        """What refused the rows both here and there, if anything did."""
        plain, refusal = PlainWalk(), None
        for number, deed in walk_order(rows, 29):
            refusal = plain.do(number, deed)
            if refusal is not None:
                break
        with self.subTest(rows=rows):
            try:
                state = play(thrown_world(), rows, 29)
            except (Short, Ring) as refused:
                self.assertEqual((type(refused), refused.number), refusal)
                if isinstance(refused, Ring):
                    self.ring_holds(plain, deed, refused.ring)
                return type(refused)
            self.assertIsNone(refusal)
            self.same(state, plain)
        return None


if __name__ == "__main__":
    unittest.main()
