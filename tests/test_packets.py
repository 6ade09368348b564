"""Points 19 to 23: packets of one house, opening packets, joining, rows, things and equality."""

import itertools
import unittest

from oneroof.errors import BadDay, Clash, NoHouse, Ring, Short
from oneroof.packets import Packet, empty, join, pack, together
from oneroof.parts import Part, Purse
from oneroof.paths import cost, cut
from oneroof.states import play
from oneroof.worlds import World
from tests.deeds import Dice, thrown_world, walk_order, walkable_rows

HOUSES = ("a", "b", "c", "d")
ROWS = ["money", "owed", "goods", "held", "fund", "gain", "sales", "fees", "paid", "shares"]

# What happens on days 1 and 3; the links of the pieces stand below.
STORY = [
    (1, ("fund", 1, "a", "x", 500)),
    (2, ("get", 1, "a", "corn", 10, "x", 40)),
    (3, ("hand", 1, "a", "b", "corn", 6, "x", 30)),
    (4, ("get", 1, "a", "@b", 8, "x", 80)),
    (5, ("get", 1, "b", "@c", 12, "y", 36)),
    (6, ("lend", 1, "a", "b", "x", 25)),
    (7, ("lend", 1, "c", "a", "y", 9)),
    (11, ("fund", 3, "a", "y", -20)),
    (12, ("gain", 3, "a", "x", 7)),
    (13, ("fee", 3, "a", "b", "x", 5)),
    (14, ("fee", 3, "c", "a", "x", 2)),
    (15, ("sell", 3, "b", "corn", 2, "x", 18)),
    (16, ("hand", 3, "b", "a", "corn", 1, "x", 10)),
    (17, ("hand", 3, "a", "d", "@b", 3, "x", 33)),
    (18, ("pay", 3, "b", "y", 2)),
    (19, ("sell", 3, "b", "@c", 4, "y", 20)),
    (20, ("get", 3, "a", "@c", 5, "x", 15)),
    (21, ("sell", 3, "a", "corn", 4, "x", 0)),
    (22, ("split", 3, "b", 2)),
    (31, ("gain", 4, "a", "x", 1)),
]
CORN = (2, 1, "", "a", "x", 40, 10)
CORN_TO_B = (3, 1, "a", "b", "x", 30, 6)
CORN_BACK = (16, 3, "b", "a", "x", 10, 1)
SHARES_B = (4, 1, "", "a", "x", 80, 8)
SHARES_B_SPLIT = (4, 1, "", "a", "x", 80, 16)
SHARES_B_TO_D = (17, 3, "a", "d", "x", 33, 6)
SHARES_C = (5, 1, "", "b", "y", 36, 12)
SHARES_C_OF_A = (20, 3, "", "a", "x", 15, 5)


def world():
    return World([("x", 1000), ("y", 250)], [("b", 20), ("a", 10), ("d", 40), ("c", 30)])


def purse(**amounts):
    return Purse([(coin, Part(amount)) for coin, amount in amounts.items()])


def numbered(*deeds):
    return list(enumerate(deeds, 1))


def story(house, day=3, **more):
    return pack(world(), STORY, house, day, **more)


def told(packet):
    """All that points 19 and 21 tell, and day and since-days."""
    return {
        "day": packet.day, "since": packet.since_days(), "money": packet.money(), "owed": packet.owed(),
        "pieces": packet.pieces(), "fund": packet.fund(), "gain": packet.gain(), "fees": packet.fees(),
        "paid": packet.paid(), "sales": packet.sales(), "sold": packet.sold(), "dealings": packet.dealings(),
    }


def nothing_told(day, since):
    return {
        "day": day, "since": since, "money": Purse(), "owed": {}, "pieces": [], "fund": Purse(), "gain": Purse(),
        "fees": {}, "paid": {}, "sales": [], "sold": [], "dealings": [],
    }


class AlwaysEqual:
    def __eq__(self, other):
        return True


class Telling(unittest.TestCase):
    maxDiff = None

    def tells(self, packet, **wanted):
        self.assertEqual(told(packet), dict(nothing_told(packet.day, packet.since_days()), **wanted))


class OneHouse(Telling):
    def test_money_claims_pieces_and_what_it_did_on_the_day(self):
        packet = story("a")
        self.assertEqual((packet.day, packet.houses(), packet.since_days()), (3, ["a"], {"a": 0}))
        self.tells(
            packet,
            money=purse(x=500 - 40 + 30 - 80 - 25 + 7 - 5 + 2 - 10 + 33 - 15, y=9 - 20 + 10),
            owed={"b": purse(x=25), "c": purse(y=-9)},
            pieces=[("@b", (SHARES_B_SPLIT,), 10), ("@c", (SHARES_C_OF_A,), 5), ("corn", (CORN, CORN_TO_B, CORN_BACK), 1)],
            fund=purse(y=-20),
            gain=purse(x=7),
            fees={"b": purse(x=-5), "c": purse(x=2)},
            paid={"b": purse(y=10)},
            sales=[("d", "@b", purse(x=33))],
            sold=[("", "corn", (CORN,), 4), ("d", "@b", (SHARES_B,), 3)],
            dealings=[("", "@c", purse(x=-15)), ("d", "@b", purse(x=33))],
        )

    def test_the_other_sides(self):
        self.tells(
            story("b"),
            money=purse(x=-30 + 25 + 5 + 18 + 10, y=-36 - 40 + 20),
            owed={"a": purse(x=-25)},
            pieces=[("@c", (SHARES_C,), 8), ("corn", (CORN, CORN_TO_B), 3)],
            fees={"a": purse(x=5)},
            paid={"": purse(y=-24), "a": purse(y=-10), "d": purse(y=-6)},
            sales=[("", "@c", purse(y=20)), ("", "corn", purse(x=18)), ("a", "corn", purse(x=10))],
            sold=[("", "@c", (SHARES_C,), 4), ("", "corn", (CORN, CORN_TO_B), 2), ("a", "corn", (CORN, CORN_TO_B), 1)],
            dealings=[("", "@c", purse(y=20))],
        )
        self.tells(story("c"), money=purse(x=-2, y=-9), owed={"a": purse(y=9)}, fees={"a": purse(x=-2)})
        self.tells(
            story("d"),
            money=purse(x=-33, y=6),
            pieces=[("@b", (SHARES_B_SPLIT, SHARES_B_TO_D), 6)],
            paid={"b": purse(y=6)},
            dealings=[("a", "@b", purse(x=-33))],
        )

    def test_other_days_do_not_count(self):
        self.tells(story("a", 0))
        at_noon = dict(money=story("a", 1).money(), owed=story("a").owed(),
                       pieces=[("@b", (SHARES_B,), 8), ("corn", (CORN,), 4)])
        self.tells(story("a", 1), fund=purse(x=500), sales=[("b", "corn", purse(x=30))],
                   sold=[("b", "corn", (CORN,), 6)], dealings=[("", "@b", purse(x=-80))], **at_noon)
        self.tells(story("a", 2), **at_noon)
        self.assertEqual(at_noon["money"], purse(x=500 - 40 + 30 - 80 - 25, y=9))
        self.tells(story("a", 29), **dict(told(story("a", 4)), day=29, gain=Purse()))
        self.assertEqual(story("a", 4).gain(), purse(x=1))

    def test_what_comes_to_nought_is_told_nowhere(self):
        deeds = numbered(
            ("lend", 1, "a", "b", "x", 5), ("lend", 1, "b", "a", "x", 5), ("fee", 1, "a", "b", "x", 5),
            ("fee", 1, "b", "a", "x", 5), ("fund", 1, "a", "x", 5), ("fund", 1, "a", "x", -5), ("gain", 1, "a", "y", 5),
            ("gain", 1, "a", "y", -5), ("get", 1, "a", "@b", 20, "x", 7), ("pay", 1, "b", "x", 1), ("gain", 1, "b", "x", 20),
            ("gain", 1, "a", "x", -20), ("sell", 1, "a", "@b", 20, "x", 7), ("get", 1, "b", "@a", 10, "x", 20),
            ("pay", 1, "a", "x", 2),
        )
        got = (9, 1, "", "a", "x", 7, 20)
        self.tells(pack(world(), deeds, "a", 1), money=purse(x=-20), gain=purse(x=-20),
                   sales=[("", "@b", purse(x=7))], sold=[("", "@b", (got,), 20)])

    def test_sums_of_several_deeds(self):
        deeds = numbered(
            ("fee", 1, "a", "b", "x", 5), ("fee", 1, "b", "a", "x", 7), ("fee", 1, "a", "b", "y", 1),
            ("get", 1, "a", "corn", 10, "x", 6), ("sell", 1, "a", "corn", 1, "x", 9), ("sell", 1, "a", "corn", 2, "y", 8),
            ("sell", 1, "a", "corn", 3, "x", 0), ("get", 1, "a", "corn", 2, "x", 3), ("hand", 1, "a", "b", "corn", 5, "x", 2),
            ("get", 1, "a", "@c", 5, "x", 9), ("sell", 1, "a", "@c", 1, "x", 4), ("hand", 1, "a", "b", "@c", 2, "x", 3),
            ("hand", 1, "b", "a", "@c", 1, "x", 2), ("get", 1, "b", "@c", 5, "x", 9),
        )
        first, second, third = (4, 1, "", "a", "x", 6, 10), (8, 1, "", "a", "x", 3, 2), (10, 1, "", "a", "x", 9, 5)
        packet = pack(world(), deeds, "a", 1)
        self.assertEqual(packet.fees(), {"b": purse(x=2, y=-1)})
        self.assertEqual(packet.sales(), [("", "@c", purse(x=4)), ("", "corn", purse(x=9, y=8)),
                                          ("b", "@c", purse(x=3)), ("b", "corn", purse(x=2))])
        self.assertEqual(packet.sold(), [("", "@c", (third,), 1), ("", "corn", (first,), 6), ("b", "@c", (third,), 2),
                                         ("b", "corn", (first,), 4), ("b", "corn", (second,), 1)])
        self.assertEqual(packet.dealings(), [("", "@c", purse(x=-5)), ("b", "@c", purse(x=1))])

    def test_pieces_sold_as_they_were_at_the_sale(self):
        deeds = numbered(("get", 0, "a", "@b", 8, "x", 8), ("sell", 1, "a", "@b", 2, "x", 1), ("split", 1, "b", 3),
                         ("sell", 1, "a", "@b", 2, "x", 5), ("sell", 1, "a", "@b", 1, "x", 0))
        packet = pack(world(), deeds, "a", 1)
        once, thrice = (1, 0, "", "a", "x", 8, 8), (1, 0, "", "a", "x", 8, 24)
        self.assertEqual(packet.sold(), [("", "@b", (once,), 2), ("", "@b", (thrice,), 3)])
        self.assertEqual(packet.pieces(), [("@b", (thrice,), 15)])

    def test_goods_that_bear_a_houses_name_are_no_shares(self):
        deeds = numbered(("get", 0, "a", "a", 4, "x", 8), ("get", 1, "a", "b", 2, "x", 2), ("sell", 1, "a", "a", 1, "x", 3),
                         ("hand", 1, "a", "b", "a", 1, "x", 3))
        got = (1, 0, "", "a", "x", 8, 4)
        packet = pack(world(), deeds, "a", 1)
        self.assertEqual((packet.pieces(), packet.dealings()), ([("a", (got,), 2), ("b", ((2, 1, "", "a", "x", 2, 2),), 2)], []))
        self.assertEqual(packet.sales(), [("", "a", purse(x=3)), ("b", "a", purse(x=3))])
        rows = dict(join(packet, pack(world(), deeds, "b", 1)).rows())
        self.assertEqual((rows["goods"], rows["held"], rows["sales"]), (purse(x=8), Purse(), purse(x=1)))

    def test_since_day_is_0_where_it_is_left_out(self):
        self.assertEqual(story("a").since_days(), {"a": 0})
        for since in range(4):
            packet = story("a", since=since)
            self.assertEqual(packet.since_days(), {"a": since})
            self.assertEqual(dict(told(packet), since={"a": 0}), told(story("a")))


class Opening(Telling):
    def test_day_before_with_nothing_done(self):
        for day in range(1, 6):
            for house in HOUSES:
                packet, before = story(house, day, opening=True, since=1), story(house, day - 1)
                self.tells(packet, money=before.money(), owed=before.owed(), pieces=before.pieces())
                self.assertEqual((packet.day, packet.since_days()), (day, {house: 1}))
        self.assertEqual(story("a", 3, opening=True).owed(), {"b": purse(x=25), "c": purse(y=-9)})
        self.assertEqual(story("a", 3, opening=True).pieces(), [("@b", (SHARES_B,), 8), ("corn", (CORN,), 4)])

    def test_of_day_0_it_has_nothing(self):
        deeds = numbered(("fund", 0, "a", "x", 5), ("get", 0, "a", "corn", 1, "x", 5), ("lend", 0, "a", "b", "x", 5))
        self.tells(pack(world(), deeds, "a", 0, opening=True))
        self.assertEqual(pack(world(), deeds, "a", 0, opening=True), pack(world(), [], "a", 0))
        self.assertEqual(len(pack(world(), deeds, "a", 1, opening=True).pieces()), 1)

    def test_not_opening_where_it_is_left_out(self):
        self.assertEqual(story("a"), story("a", opening=False))
        self.assertNotEqual(story("a"), story("a", opening=True))

    def test_equal_to_the_packet_of_a_day_on_which_the_house_does_nothing(self):
        self.assertEqual(story("b", 2, opening=True), story("b", 2))
        self.assertEqual(story("b", 4, opening=True), story("b", 4))
        self.assertNotEqual(story("b", 4, opening=True), story("b", 3))


class Refusals(unittest.TestCase):
    SHORT = ("sell", 2, "a", "corn", 1, "x", 1)
    RING = ("get", 2, "a", "@a", 1, "x", 1)

    def refused(self, error, fields, deeds, house, day):
        for opening in (False, True):
            with self.subTest(opening=opening):
                with self.assertRaises(error) as caught:
                    pack(world(), deeds, house, day, opening=opening)
                self.assertIs(type(caught.exception), error)
                self.assertEqual(vars(caught.exception), fields)

    def test_house_first_then_day_then_the_walk(self):
        for house in ("e", "", "x", "A", "@a"):
            for day in (3, 30, -1):
                self.refused(NoHouse, {"name": house}, numbered(self.SHORT), house, day)
        for day in (-1, 30, 1000):
            self.refused(BadDay, {"day": day}, numbered(self.SHORT), "a", day)

    def test_short_and_ring(self):
        for house in HOUSES:
            for day in (2, 3, 29):
                self.refused(Short, {"number": 1}, numbered(self.SHORT, self.RING), house, day)
                self.refused(Ring, {"number": 1, "ring": ["a"]}, numbered(self.RING, self.SHORT), house, day)

    def test_the_days_own_deeds_refuse_an_opening_packet_too(self):
        self.refused(Short, {"number": 1}, numbered(self.SHORT), "b", 2)
        self.refused(Short, {"number": 9}, [(9, ("sell", 0, "a", "corn", 1, "x", 1))], "b", 0)

    def test_deeds_of_later_days_are_not_looked_at(self):
        for opening in (False, True):
            packet = pack(world(), numbered(self.SHORT, self.RING), "a", 1, opening=opening)
            self.assertEqual(packet, pack(world(), [], "a", 1))


class Joined(Telling):
    def test_what_is_between_houses_is_left_out(self):
        self.tells(
            join(story("a"), story("b")),
            money=story("a").money().plus(story("b").money()),
            owed={"c": purse(y=-9)},
            pieces=[("@c", (SHARES_C,), 8), ("@c", (SHARES_C_OF_A,), 5), ("corn", (CORN,), 4)],
            fund=purse(y=-20),
            gain=purse(x=7),
            fees={"c": purse(x=2)},
            paid={"": purse(y=-24), "d": purse(y=-6)},
            sales=[("", "@c", purse(y=20)), ("", "corn", purse(x=18))],
            sold=[("", "@c", (SHARES_C,), 4), ("", "corn", (CORN,), 6)],
            dealings=[("", "@c", purse(x=-15, y=20)), ("d", "@b", purse(x=33))],
        )

    def test_shares_of_a_house_of_it_and_dealings_in_them(self):
        self.tells(
            join(story("b"), story("d")),
            money=story("b").money().plus(story("d").money()),
            owed={"a": purse(x=-25)},
            pieces=[("@c", (SHARES_C,), 8), ("corn", (CORN, CORN_TO_B), 3)],
            fees={"a": purse(x=5)},
            paid={"": purse(y=-24), "a": purse(y=-10)},
            sales=[("", "@c", purse(y=20)), ("", "corn", purse(x=18)), ("a", "corn", purse(x=10))],
            sold=[("", "@c", (SHARES_C,), 4), ("", "corn", (CORN, CORN_TO_B), 2), ("a", "corn", (CORN, CORN_TO_B), 1)],
            dealings=[("", "@c", purse(y=20)), ("a", "@b", purse(x=-33))],
        )

    def test_all_houses(self):
        money = Purse()
        for house in HOUSES:
            money = money.plus(story(house).money())
        self.tells(
            together([story(house) for house in HOUSES]),
            money=money,
            pieces=[("corn", (CORN,), 4)],
            fund=purse(y=-20),
            gain=purse(x=7),
            paid={"": purse(y=-24)},
            sales=[("", "corn", purse(x=18))],
            sold=[("", "corn", (CORN,), 6)],
            dealings=[("", "@c", purse(x=-15, y=20))],
        )

    def test_links_are_inner_by_the_since_days_of_both(self):
        for since_a, since_b, corn in (
            (1, 1, [(CORN,)]),
            (0, 2, [(CORN, CORN_TO_B)]),
            (2, 0, [(CORN, CORN_TO_B)]),
            (3, 3, [(CORN, CORN_TO_B)]),
        ):
            packet = join(story("a", since=since_a), story("b", since=since_b))
            self.assertEqual(packet.since_days(), {"a": since_a, "b": since_b})
            self.assertEqual([path for thing, path, _ in packet.pieces() if thing == "corn"], corn)
            counts = {thing: count for thing, _, count in packet.pieces() if thing == "corn"}
            self.assertEqual(counts, {"corn": 4})
            sold = [row for row in packet.sold() if row[1] == "corn"]
            wanted = [("", "corn", (CORN,), 6)] if corn == [(CORN,)] else [
                ("", "corn", (CORN,), 4), ("", "corn", (CORN, CORN_TO_B), 2)]
            self.assertEqual(sold, wanted)

    def test_handed_packets_stay(self):
        one, other = story("a"), story("b")
        join(one, other)
        self.assertEqual((told(one), told(other)), (told(story("a")), told(story("b"))))

    def test_any_order_and_brackets(self):
        packets = [story(house, since=since) for house, since in zip(HOUSES, (0, 1, 3, 2))]
        wanted = told(together(packets))
        for a, b, c, d in itertools.permutations(packets):
            for packet in (
                join(join(join(a, b), c), d),
                join(join(a, b), join(c, d)),
                join(a, join(b, join(c, d))),
                join(join(a, join(b, c)), d),
                together([a, b, c, d]),
                together([join(a, b), c, d]),
                together([empty(3), a, b, empty(3), c, d]),
            ):
                self.assertEqual(told(packet), wanted)
                self.assertEqual(packet, together(packets))

    def test_packet_without_houses_joins_to_nothing_new(self):
        for packet in (story("a"), join(story("c"), story("b")), empty(3), story("a", opening=True)):
            for joined in (join(packet, empty(3)), join(empty(3), packet), together([packet]),
                           together([empty(3), packet, empty(3)])):
                self.assertEqual(joined, packet)
                self.assertEqual(told(joined), told(packet))

    def test_handed_list_stays(self):
        packets = [story("a"), story("b"), story("c")]
        before = list(packets)
        together(packets)
        self.assertEqual([id(packet) for packet in packets], [id(packet) for packet in before])


class Clashes(unittest.TestCase):
    def clash(self, call, *arguments):
        with self.assertRaises(Clash) as caught:
            call(*arguments)
        self.assertEqual(vars(caught.exception), {})

    def test_not_of_one_day(self):
        self.clash(join, story("a", 3), story("b", 4))
        self.clash(join, story("a", 4), story("b", 3))
        self.clash(join, story("a", 3), story("a", 4))
        self.clash(join, empty(3), story("b", 4))
        self.clash(join, story("b", 4), empty(3))
        self.clash(join, empty(3), empty(4))

    def test_some_house_in_both(self):
        pair = join(story("a"), story("b"))
        self.clash(join, story("a"), story("a"))
        self.clash(join, story("a"), story("a", opening=True))
        self.clash(join, pair, story("b"))
        self.clash(join, story("a"), pair)
        self.clash(join, pair, join(story("c"), story("a")))
        self.assertEqual(len(join(pair, story("c"))), 3)

    def test_together(self):
        self.clash(together, [story("a"), story("b"), story("a")])
        self.clash(together, [story("a"), story("b"), story("c", 4)])
        self.clash(together, [story("a"), story("b"), story("c"), story("c")])


class Empty(Telling):
    def test_no_houses_and_nothing(self):
        for day in (0, 7, 29):
            packet = empty(day)
            self.assertIsInstance(packet, Packet)
            self.tells(packet)
            self.assertEqual((packet.day, packet.houses(), packet.since_days(), len(packet)), (day, [], {}, 0))
            self.assertEqual(packet.rows(), [(row, Purse()) for row in ROWS])
            self.assertEqual(packet.things(), Purse())
            self.assertEqual(repr(packet), f"Packet({day}:)")


class Rows(unittest.TestCase):
    def test_of_one_house(self):
        packet = story("a")
        self.assertEqual(packet.rows(), [
            ("money", purse(x=397, y=-1)),
            ("owed", purse(x=25, y=-9)),
            ("goods", purse(x=10)),
            ("held", purse(x=50 + 15)),
            ("fund", purse(y=-20)),
            ("gain", purse(x=7)),
            ("sales", purse(x=33 - 30 - 16)),
            ("fees", purse(x=-3)),
            ("paid", purse(y=10)),
            ("shares", Purse()),
        ])
        self.assertEqual(packet.things(), purse(x=397 + 25 + 10 + 65, y=-10))

    def test_of_two_houses(self):
        packet = join(story("a"), story("b"))
        self.assertEqual(packet.rows(), [
            ("money", purse(x=397 + 28, y=-1 - 56)),
            ("owed", purse(y=-9)),
            ("goods", purse(x=16)),
            ("held", purse(x=15, y=24)),
            ("fund", purse(y=-20)),
            ("gain", purse(x=7)),
            ("sales", purse(x=18 - 24, y=20 - 12)),
            ("fees", purse(x=2)),
            ("paid", purse(y=-30)),
            ("shares", purse(x=33)),
        ])
        self.assertEqual(packet.things(), purse(x=425 + 16 + 15, y=-57 - 9 + 24))

    def test_dealings_in_shares_of_houses_not_under_the_roof_are_no_row(self):
        rows = dict(join(story("a"), story("c")).rows())
        self.assertEqual((rows["shares"], rows["held"]), (purse(x=-15), purse(x=50)))
        rows = dict(join(story("b"), story("d")).rows())
        self.assertEqual(rows["shares"], purse(x=-33))
        self.assertEqual(rows["sales"], purse(x=18 + 10 - 15, y=20 - 12))

    def test_in_parts(self):
        deeds = numbered(("get", 1, "a", "corn", 3, "x", 10), ("sell", 1, "a", "corn", 1, "y", 5))
        rows = dict(pack(world(), deeds, "a", 1).rows())
        self.assertEqual(rows["goods"], Purse([("x", Part(20, 3))]))
        self.assertEqual(rows["sales"], Purse([("x", Part(-10, 3)), ("y", Part(5))]))

    def test_cost_to_the_roof_by_its_since_days(self):
        deeds = numbered(("get", 0, "a", "corn", 2, "x", 10), ("hand", 1, "a", "b", "corn", 2, "x", 14),
                         ("sell", 3, "b", "corn", 1, "x", 20))
        for since_a, since_b, wanted in ((0, 0, 5), (1, 1, 5), (0, 2, 7), (2, 0, 7), (3, 3, 7)):
            packet = join(pack(world(), deeds, "a", 3, since=since_a), pack(world(), deeds, "b", 3, since=since_b))
            rows = dict(packet.rows())
            self.assertEqual((rows["goods"], rows["sales"]), (purse(x=wanted), purse(x=20 - wanted)))

    def test_told_lists_and_dicts_are_the_askers_own(self):
        packet = join(story("a"), story("b"))
        wanted, rows = told(packet), packet.rows()
        for mine in (packet.houses(), packet.since_days(), packet.owed(), packet.fees(), packet.paid(), packet.pieces(),
                     packet.sales(), packet.dealings(), packet.sold(), packet.rows()):
            self.assertIsInstance(mine, (list, dict))
            self.assertGreater(len(mine), 0)
            if isinstance(mine, list) and mine != ["a", "b"]:
                self.assertEqual({type(row) for row in mine}, {tuple})
            mine.clear()
        self.assertEqual((told(packet), packet.rows()), (wanted, rows))
        packet.since_days()["c"] = 0
        packet.owed()["b"] = Purse()
        self.assertEqual(told(packet), wanted)

    def test_handed_rows_are_not_kept(self):
        deeds = list(STORY)
        packet = pack(world(), deeds, "a", 3)
        self.assertEqual(deeds, STORY)
        deeds.clear()
        self.assertEqual(packet, story("a"))


class LengthAndRepr(unittest.TestCase):
    def test_houses_by_name(self):
        self.assertEqual((len(story("b")), repr(story("b"))), (1, "Packet(3: b)"))
        packet = together([story("d", since=2), story("b", since=1), story("a")])
        self.assertEqual((len(packet), repr(packet)), (3, "Packet(3: a b d)"))
        self.assertEqual((packet.houses(), packet.since_days()), (["a", "b", "d"], {"a": 0, "b": 1, "d": 2}))
        self.assertEqual(repr(join(story("b", 0), story("a", 0))), "Packet(0: a b)")
        self.assertEqual(repr(story("c", 29)), "Packet(29: c)")


class Equality(unittest.TestCase):
    def alone(self, name, one, other):
        self.assertEqual([key for key in told(one) if told(one)[key] != told(other)[key]], [name])
        self.assertFalse(one == other)
        self.assertTrue(one != other)
        self.assertFalse(other == one)

    def packets(self, name, one, other, houses=("a",)):
        """Packets of day 3 after the one deeds and after the other differ in what has that name."""
        self.alone(name, *[
            together([pack(world(), numbered(*deeds), house, 3) for house in houses]) for deeds in (one, other)
        ])

    def test_equal_however_the_deeds_came(self):
        for house in HOUSES:
            self.assertEqual(story(house), pack(world(), STORY[::-1], house, 3))
            self.assertTrue(story(house) == story(house))
            self.assertFalse(story(house) != story(house))
        self.assertEqual(pack(world(), [], "a", 3), pack(world(), numbered(("fund", 4, "a", "x", 5)), "a", 3))

    def test_days_and_since_days(self):
        self.alone("day", empty(3), empty(4))
        self.alone("day", pack(world(), [], "a", 3), pack(world(), [], "a", 4))
        self.alone("since", pack(world(), [], "a", 3), pack(world(), [], "b", 3))
        self.alone("since", story("a", since=0), story("a", since=1))
        self.alone("since", empty(3), pack(world(), [], "a", 3))

    def test_money_and_claims(self):
        self.packets("money", [("fund", 1, "a", "x", 5)], [])
        self.packets("money", [("fund", 1, "a", "x", 5)], [("fund", 1, "a", "y", 5)])
        self.packets("owed", [("lend", 1, "a", "b", "x", 5)], [("fund", 1, "a", "x", -5)])
        self.packets("owed", [("lend", 1, "a", "b", "x", 5)], [("lend", 1, "a", "c", "x", 5)])

    def test_pieces(self):
        corn = ("get", 1, "a", "corn", 2, "x", 0)
        self.packets("pieces", [corn], [])
        self.packets("pieces", [corn], [("get", 1, "a", "rye", 2, "x", 0)])
        self.packets("pieces", [corn], [("get", 1, "a", "corn", 3, "x", 0)])
        self.packets("pieces", [corn], [("get", 2, "a", "corn", 2, "x", 0)])
        self.packets("pieces", [corn], [corn, ("sell", 2, "a", "corn", 1, "x", 0)])

    def test_what_was_done_on_the_day(self):
        self.packets("fund", [("fund", 3, "a", "x", 5)], [("fund", 1, "a", "x", 5)])
        self.packets("gain", [("gain", 3, "a", "x", 5)], [("gain", 1, "a", "x", 5)])
        self.packets("fees", [("fee", 3, "a", "b", "x", 5)], [("fee", 1, "a", "b", "x", 5)])
        self.packets("fees", [("fee", 3, "a", "b", "x", 5)], [("fee", 3, "a", "c", "x", 5)])
        self.packets("paid", [("pay", 3, "a", "x", 5)], [("pay", 1, "a", "x", 5)])

    def test_sales_sold_and_dealings(self):
        corn = ("get", 1, "a", "corn", 2, "x", 0)
        self.packets("sales", [corn, ("sell", 3, "a", "corn", 1, "x", 6), ("gain", 1, "a", "x", -1)],
                     [corn, ("sell", 3, "a", "corn", 1, "x", 5)])
        self.packets("sold", [corn, ("sell", 3, "a", "corn", 1, "x", 0)], [corn, ("sell", 2, "a", "corn", 1, "x", 0)])
        self.packets("sold", [corn, ("sell", 3, "a", "corn", 1, "x", 0)], [corn, ("hand", 3, "a", "b", "corn", 1, "x", 0)])
        self.packets("dealings", [("get", 3, "a", "@c", 1, "x", 5)], [("gain", 1, "a", "x", -5)], ("a", "c"))
        self.packets("dealings", [("get", 3, "a", "@c", 1, "x", 5)], [("get", 1, "a", "@c", 1, "x", 5)], ("a", "c"))

    def test_nothing_else(self):
        for other in (None, 0, "Packet(3: a)", 3, ["a"], {"a": 0}, Purse(), told(story("a")), AlwaysEqual()):
            self.assertFalse(story("a").__eq__(other))
            self.assertTrue(story("a").__ne__(other))
        self.assertFalse(empty(3) == Purse())


class PlainRoof:
    """What houses under a roof have and did, told straight from the deeds, without packets."""

    def __init__(self, rows, since, day, opening=False):
        self.rows, self.since, self.day = rows, since, day
        self.found = {name: {} for name in ("money", "owed", "fund", "gain", "fees", "paid", "sales", "dealings")}
        self.lots = {"pieces": {}, "sold": {}}
        if not opening:
            self.have(play(thrown_world(), rows, day))
            for number, deed in walk_order(rows, day):
                if deed[1] == day:
                    self.do(number, deed)
        elif day > 0:
            self.have(play(thrown_world(), rows, day - 1))

    def add(self, name, key, coin, amount):
        purse = self.found[name].get(key, Purse())
        self.found[name][key] = purse.plus(Purse([(coin, Part(amount))]))

    def put(self, name, key, path, count):
        key += (cut(path, self.since),)
        self.lots[name][key] = self.lots[name].get(key, 0) + count

    def outside(self, house):
        return house not in self.since

    def have(self, state):
        for house in self.since:
            for coin in ("x", "y"):
                self.add("money", "", coin, state.purse(house).at(coin).top)
                for other in filter(self.outside, HOUSES):
                    self.add("owed", other, coin, state.claim(house, other).at(coin).top)
            for thing in ("corn", "b", "@a", "@b", "@c", "@d"):
                if thing[0] != "@" or self.outside(thing[1:]):
                    for count, path in state.pieces(house, thing):
                        self.put("pieces", (thing,), path, count)

    def do(self, number, deed):
        ahead = [row for row in self.rows if (row[1][1], row[0]) < (self.day, number)]
        before = play(thrown_world(), ahead, self.day)
        kind, _, *places = deed
        if kind in ("fund", "gain") and not self.outside(places[0]):
            self.add(kind, "", places[1], places[2])
        if kind == "fee":
            self.both("fees", places[0], places[1], places[2], places[3])
        if kind == "pay":
            house, coin, per = places
            for holder in HOUSES:
                self.both("paid", house, holder, coin, per * before.many(holder, "@" + house))
            self.both("paid", house, "", coin, per * before.free(house))
        if kind in ("get", "sell", "hand"):
            giver = "" if kind == "get" else places[0]
            taker = "" if kind == "sell" else places[-5]
            self.trade(before, giver, taker, *places[-4:])

    def both(self, name, payer, payee, coin, amount):
        if payer in self.since and self.outside(payee):
            self.add(name, payee, coin, -amount)
        if payee in self.since and self.outside(payer):
            self.add(name, payer, coin, amount)

    def trade(self, before, giver, taker, thing, count, coin, price):
        if thing[0] == "@" and giver in self.since and self.outside(taker):
            self.add("dealings", (taker, thing), coin, price)
        if thing[0] == "@" and taker in self.since and self.outside(giver):
            self.add("dealings", (giver, thing), coin, -price)
        if giver in self.since and self.outside(taker) and (thing[0] != "@" or self.outside(thing[1:])):
            self.add("sales", (taker, thing), coin, price)
            for many, path in before.pieces(giver, thing):
                if min(many, count) > 0:
                    self.put("sold", (taker, thing), path, min(many, count))
                count -= min(many, count)

    def purses(self, name):
        return {key: found for key, found in self.found[name].items() if len(found) > 0}

    def told(self):
        wanted = {"day": self.day, "since": self.since}
        for name in ("money", "fund", "gain"):
            wanted[name] = self.purses(name).get("", Purse())
        for name in ("owed", "fees", "paid"):
            wanted[name] = self.purses(name)
        for name in ("sales", "dealings"):
            wanted[name] = [key + (self.purses(name)[key],) for key in sorted(self.purses(name))]
        for name in ("pieces", "sold"):
            wanted[name] = [key + (self.lots[name][key],) for key in sorted(self.lots[name])]
        return wanted


def total(purses):
    found = Purse()
    for one in purses:
        found = found.plus(one)
    return found


class ThrownRoofs(unittest.TestCase):
    maxDiff = None

    def joined(self, dice, rows, since, day, opening):
        """The packets of the houses joined in a thrown order and thrown brackets."""
        left = [pack(thrown_world(), rows, house, day, since=since[house], opening=opening) for house in since]
        left = dice.shuffled(left)
        while len(left) > 1:
            left.append(join(left.pop(dice.throw(len(left))), left.pop(dice.throw(len(left)))))
        return left[0]

    def roofs(self):
        """All roofs over some houses of walked rows: (rows, since, day), and dice."""
        for seed in range(25):
            rows, dice = walkable_rows(seed), Dice(seed + 1000)
            day = dice.among(0, 4)
            for many in range(1, 5):
                for houses in itertools.combinations(HOUSES, many):
                    yield rows, {house: dice.among(0, day) for house in houses}, day, dice

    def test_joined_packets_tell_what_the_deeds_tell_of_the_roof(self):
        for rows, since, day, dice in self.roofs():
            for opening in (False, True):
                with self.subTest(rows=rows, since=since, day=day, opening=opening):
                    packet = self.joined(dice, rows, since, day, opening)
                    self.assertEqual(told(packet), PlainRoof(rows, since, day, opening).told())

    def test_things_come_of_the_opening_things_and_what_was_done(self):
        for rows, since, day, dice in self.roofs():
            with self.subTest(rows=rows, since=since, day=day):
                packet = self.joined(dice, rows, since, day, False)
                opening = self.joined(dice, rows, since, day, True)
                found = dict(packet.rows())
                self.assertEqual([row for row, _ in packet.rows()], ROWS)
                done = total([found[row] for row in ("fund", "gain", "sales", "fees", "paid", "shares")])
                self.assertEqual(packet.things(), total([found[row] for row in ROWS[:4]]))
                self.assertEqual(packet.things(), opening.things().plus(done))
                self.assertEqual([purse for _, purse in opening.rows()[4:]], [Purse()] * 6)

    def test_rows_by_what_is_told(self):
        for rows, since, day, dice in self.roofs():
            packet = self.joined(dice, rows, since, day, False)
            found = dict(packet.rows())
            costs = {True: Purse(), False: Purse()}
            for thing, path, count in packet.pieces():
                costs[thing[0] == "@"] = costs[thing[0] == "@"].plus(cost(count, path, since=since))
            self.assertEqual((found["goods"], found["held"]), (costs[False], costs[True]))
            had = total([purse for _, _, purse in packet.sales()])
            spent = total([cost(count, path, since=since) for _, _, path, count in packet.sold()])
            self.assertEqual(found["sales"], had.minus(spent))
            own = [purse for _, thing, purse in packet.dealings() if thing[1:] in since]
            self.assertEqual(found["shares"], total(own))
            for row, purses in (("owed", packet.owed()), ("fees", packet.fees()), ("paid", packet.paid())):
                self.assertEqual(found[row], total(purses.values()))
            for row, purse in (("money", packet.money()), ("fund", packet.fund()), ("gain", packet.gain())):
                self.assertEqual(found[row], purse)


if __name__ == "__main__":
    unittest.main()
