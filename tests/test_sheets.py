"""Points 33 and 34: sheets of money and of things."""

import itertools
import unittest

from oneroof.books import book_of
from oneroof.errors import BadDay, BadName, NoCoin, NoHouse, Ring, Short
from oneroof.parts import Part, Purse
from oneroof.paths import cost, cut
from oneroof.sheets import fits, money_sheet, thing_sheet
from oneroof.states import play
from oneroof.steps import spells
from oneroof.worlds import World
from tests.deeds import thrown_world, walk_order, walkable_rows

HOUSES = ("a", "b", "c", "d")
SHORT = ("sell", 2, "a", "corn", 1, "x", 1)
RING = ("get", 2, "a", "@a", 1, "x", 1)

# Numbers do not rise with the days.
STORY = [
    (30, ("fund", 0, "a", "x", 500)),
    (2, ("get", 1, "a", "corn", 10, "x", 40)),
    (9, ("hand", 1, "a", "b", "corn", 6, "x", 30)),
    (4, ("get", 1, "a", "@b", 12, "y", 80)),
    (5, ("get", 2, "b", "@c", 12, "x", 36)),
    (6, ("lend", 2, "a", "b", "x", 25)),
    (7, ("fee", 2, "c", "a", "x", 9)),
    (8, ("pay", 3, "b", "x", 2)),
    (1, ("sell", 3, "b", "corn", 2, "x", 18)),
    (10, ("sell", 3, "a", "corn", 1, "x", 0)),
    (11, ("gain", 3, "b", "y", 1)),
    (12, ("rate", 3, "x", 7)),
    (13, ("split", 3, "c", 2)),
    (3, ("hand", 4, "b", "c", "corn", 1, "x", 4)),
    (14, ("pay", 5, "c", "x", 1)),
]


def world():
    return World([("x", 1000), ("y", 250)], [("b", 20), ("a", 10), ("d", 40), ("c", 30)])


def purse(**amounts):
    return Purse([(coin, Part(amount)) for coin, amount in amounts.items()])


def numbered(*deeds):
    return list(enumerate(deeds, 1))


def sheet(houses, coin="x", day=29):
    return money_sheet(world(), STORY, list(houses), coin, day)


class Refusing(unittest.TestCase):
    def refused(self, error, fields, asked, *more, **named):
        with self.subTest(asked=asked, more=more):
            with self.assertRaises(error) as caught:
                asked(world(), *more, **named)
            self.assertIs(type(caught.exception), error)
            self.assertEqual(vars(caught.exception), fields)


class MoneySheets(Refusing):
    def test_one_house_by_rising_number(self):
        self.assertEqual(sheet("a"), [(2, -40), (6, -25), (7, 9), (8, 24), (9, 30), (30, 500)])
        self.assertEqual(sheet("b"), [(1, 18), (3, 4), (5, -36), (6, 25), (8, -40), (9, -30), (14, 24)])
        self.assertEqual(sheet("c"), [(3, -4), (7, -9), (14, -60)])
        self.assertEqual(sheet("d"), [])

    def test_coin_and_day(self):
        self.assertEqual(sheet("a", "y"), [(4, -80)])
        self.assertEqual(sheet("b", "y"), [(11, 1)])
        self.assertEqual(sheet("ab", "y", 2), [(4, -80)])
        self.assertEqual(sheet("a", "x", 0), [(30, 500)])
        self.assertEqual(sheet("a", "x", 1), [(2, -40), (9, 30), (30, 500)])
        self.assertEqual(sheet("b", "x", 3), [(1, 18), (5, -36), (6, 25), (8, -40), (9, -30)])

    def test_what_is_between_them_is_not_listed(self):
        self.assertEqual(sheet("ab"), [(1, 18), (2, -40), (3, 4), (5, -36), (7, 9), (8, -16), (14, 24), (30, 500)])
        self.assertEqual(sheet("bc"), [(1, 18), (5, -36), (6, 25), (7, -9), (8, -40), (9, -30), (14, -36)])
        self.assertEqual(sheet("abcd"), [(1, 18), (2, -40), (5, -36), (8, -16), (14, -36), (30, 500)])

    def test_payments_by_share_among_them_alone(self):
        rows = numbered(("get", 0, "a", "@b", 20, "y", 1), ("pay", 1, "b", "x", 3))
        self.assertEqual(money_sheet(world(), rows, ["a", "b"], "x", 1), [])
        self.assertEqual(money_sheet(world(), rows, ["a"], "x", 1), [(2, 60)])

    def test_each_house_once_and_in_any_order(self):
        self.assertEqual(sheet("aa"), sheet("a"))
        for houses in itertools.permutations("abca"):
            self.assertEqual(sheet(houses), sheet("abc"))

    def test_no_houses_and_no_deeds(self):
        self.assertEqual(sheet(""), [])
        self.assertEqual(money_sheet(world(), [], ["a", "b"], "x", 29), [])

    def test_of_nought_and_of_no_money(self):
        rows = numbered(("get", 0, "a", "corn", 3, "x", 0), ("hand", 0, "a", "b", "corn", 1, "x", 0), ("rate", 0, "x", 5),
                        ("sell", 0, "a", "corn", 1, "x", 0), ("split", 0, "a", 2))
        for houses in (["a"], ["b"], ["a", "b"]):
            self.assertEqual(money_sheet(world(), rows, houses, "x", 3), [])

    def test_refusals_in_their_order(self):
        for asked, named in ((money_sheet, {}), (fits, {"total": 0, "sheet": []})):
            rows = numbered(SHORT, RING)
            self.refused(NoHouse, {"name": "f"}, asked, rows, ["a", "f", "e"], "z", 30, **named)
            self.refused(NoHouse, {"name": ""}, asked, rows, ["", "f"], "x", 2, **named)
            self.refused(NoCoin, {"name": "z"}, asked, rows, ["a", "b"], "z", 30, **named)
            self.refused(NoCoin, {"name": "a"}, asked, rows, [], "a", 2, **named)
            for day in (30, -1):
                self.refused(BadDay, {"day": day}, asked, rows, ["a"], "x", day, **named)
            self.refused(Short, {"number": 1}, asked, rows, ["b"], "y", 2, **named)
            self.refused(Ring, {"number": 1, "ring": ["a"]}, asked, numbered(RING, SHORT), [], "y", 29, **named)
            asked(world(), rows, ["a"], "x", 1, **named)

    def test_what_is_handed_in_stays_and_told_lists_are_the_askers_own(self):
        rows, houses = list(STORY), ["b", "a", "b"]
        found = money_sheet(world(), rows, houses, "x", 29)
        self.assertEqual([type(found)] + [type(row) for row in found], [list] + [tuple] * 8)
        found.clear()
        self.assertEqual((rows, houses), (STORY, ["b", "a", "b"]))
        self.assertEqual(len(money_sheet(world(), rows, houses, "x", 29)), 8)


class Fits(unittest.TestCase):
    def fits(self, houses, total, told, coin="x", day=29):
        found = fits(world(), STORY, list(houses), coin, day, total=total, sheet=told)
        self.assertIsInstance(found, bool)
        return found

    def test_true_sheets(self):
        for houses in ("a", "b", "c", "d", "ab", "ba", "abcd", "aab", ""):
            for coin in ("x", "y"):
                for day in (0, 1, 3, 29):
                    told = sheet(houses, coin, day)
                    total = sum(amount for _, amount in told)
                    self.assertTrue(self.fits(houses, total, told, coin, day))
        self.assertTrue(self.fits("a", 498, [(2, -40), (6, -25), (7, 9), (8, 24), (9, 30), (30, 500)]))
        self.assertTrue(self.fits("d", 0, []))

    def test_another_total(self):
        for total in (497, 499, -498, 0, 500):
            self.assertFalse(self.fits("a", total, sheet("a")))
        self.assertFalse(self.fits("d", 1, []))

    def test_sheets_that_are_wrong_in_one_place(self):
        true_sheet = sheet("a")
        for at, (number, amount) in enumerate(true_sheet):
            for row in ((number + 20, amount), (number, amount + 1), (number, -amount)):
                told = true_sheet[:at] + [row] + true_sheet[at + 1:]
                self.assertFalse(self.fits("a", 498, told))
                self.assertFalse(self.fits("a", sum(amount for _, amount in told), told))
            for told in (true_sheet[:at] + true_sheet[at + 1:], true_sheet[:at] + [true_sheet[at]] * 2 + true_sheet[at + 1:],
                         true_sheet[:at] + [(number, amount - 1), (number, 1)] + true_sheet[at + 1:]):
                self.assertFalse(self.fits("a", 498, told))
                self.assertFalse(self.fits("a", sum(amount for _, amount in told), told))

    def test_another_order_and_needless_rows(self):
        true_sheet = sheet("a")
        self.assertFalse(self.fits("a", 498, true_sheet[::-1]))
        self.assertFalse(self.fits("a", 498, true_sheet + [(31, 0)]))
        self.assertFalse(self.fits("a", 498, [(1, 0)] + true_sheet))
        self.assertFalse(self.fits("a", 498, []))
        self.assertFalse(self.fits("d", 0, [(1, 0)]))
        self.assertFalse(self.fits("ab", 463, sheet("a") + sheet("b")))

    def test_sheet_of_other_houses_coin_or_day(self):
        self.assertFalse(self.fits("b", 498, sheet("a")))
        self.assertFalse(self.fits("a", 498, sheet("a"), "y"))
        self.assertFalse(self.fits("a", 498, sheet("a"), "x", 2))

    def test_what_is_handed_in_stays(self):
        told = sheet("a")
        self.fits("a", 498, told)
        self.assertEqual(told, sheet("a"))


class ThingSheets(Refusing):
    def things(self, head, thing, day=29, rows=tuple(STORY)):
        return thing_sheet(world(), list(rows), head, thing, day)

    def test_goods_by_the_last_link_of_their_cut_path(self):
        # b came in on day 1, c on none.
        self.assertEqual(self.things("a", "corn", 1), [(2, 10, purse(x=40))])
        self.assertEqual(self.things("a", "corn", 3), [(2, 7, purse(x=28))])
        self.assertEqual(self.things("a", "corn"), [(2, 6, purse(x=24))])
        self.assertEqual(self.things("b", "corn", 3), [(9, 4, purse(x=20))])
        self.assertEqual(self.things("c", "corn"), [(3, 1, purse(x=4))])
        self.assertEqual((self.things("d", "corn"), self.things("a", "rye"), self.things("a", "b")), ([], [], []))

    def test_shares(self):
        self.assertEqual(self.things("a", "@c"), [(5, 24, purse(x=36))])
        self.assertEqual(self.things("a", "@c", 2), [(5, 12, purse(x=36))])
        self.assertEqual(self.things("a", "@b"), [(4, 12, purse(y=80))])
        self.assertEqual((self.things("b", "@b"), self.things("a", "@d")), ([], []))

    def test_several_ways_to_one_link_and_several_links(self):
        rows = numbered(
            ("get", 0, "a", "@b", 11, "x", 0), ("get", 1, "b", "corn", 9, "x", 30), ("get", 1, "c", "corn", 2, "y", 8),
            ("hand", 2, "b", "a", "corn", 4, "x", 2), ("hand", 2, "c", "a", "corn", 2, "y", 10), ("hand", 3, "a", "b", "corn", 3, "x", 1),
            ("hand", 4, "b", "c", "corn", 6, "x", 6), ("hand", 5, "c", "a", "corn", 1, "x", 3),
        )
        self.assertEqual(self.things("a", "corn", 3, rows), [(2, 9, purse(x=30)), (5, 2, purse(y=10))])
        self.assertEqual(self.things("a", "corn", 5, rows), [(2, 3, purse(x=10)), (5, 2, purse(y=10)), (8, 1, purse(x=3))])
        self.assertEqual(self.things("c", "corn", 4, rows), [(7, 6, purse(x=6))])

    def test_by_the_since_days_of_that_day(self):
        rows = numbered(("get", 0, "a", "corn", 5, "x", 10), ("hand", 2, "a", "b", "corn", 5, "x", 30), ("get", 2, "a", "@b", 11, "x", 0),
                        ("sell", 4, "a", "@b", 1, "x", 0), ("get", 5, "a", "@b", 1, "x", 0))
        self.assertEqual([self.things("a", "corn", day, rows) for day in (1, 2, 3, 4, 5)], [
            [(1, 5, purse(x=10))], [(1, 5, purse(x=10))], [(1, 5, purse(x=10))], [], [(2, 5, purse(x=30))],
        ])

    def test_for_nought(self):
        self.assertEqual(self.things("a", "corn", 0, numbered(("get", 0, "a", "corn", 5, "x", 0))), [(1, 5, Purse())])

    def test_refusals_in_their_order(self):
        rows = numbered(SHORT, RING)
        for wrong in ("e", "", "@a"):
            self.refused(NoHouse, {"name": wrong}, thing_sheet, rows, wrong, "@f", 30)
            self.refused(NoHouse, {"name": wrong}, thing_sheet, rows, wrong, "Corn", 30)
        for wrong in ("", "corners", "Corn", "c1", "a@"):
            self.refused(BadName, {"name": wrong}, thing_sheet, rows, "a", wrong, 30)
        for wrong in ("", "e", "x", "@a"):
            self.refused(NoHouse, {"name": wrong}, thing_sheet, rows, "a", "@" + wrong, 30)
        for day in (-1, 30):
            self.refused(BadDay, {"day": day}, thing_sheet, rows, "a", "@b", day)
        self.refused(Short, {"number": 1}, thing_sheet, rows, "b", "corn", 2)
        self.refused(Ring, {"number": 1, "ring": ["a"]}, thing_sheet, numbered(RING, SHORT), "b", "corn", 29)
        self.assertEqual(thing_sheet(world(), rows, "a", "corn", 1), [])

    def test_what_is_handed_in_stays_and_told_lists_are_the_askers_own(self):
        rows = list(STORY)
        found = thing_sheet(world(), rows, "a", "corn", 29)
        self.assertEqual([type(found)] + [type(row) for row in found], [list, tuple])
        found.clear()
        self.assertEqual((rows, len(thing_sheet(world(), rows, "a", "corn", 29))), (STORY, 1))


class ThrownSheets(unittest.TestCase):
    def test_money_deed_by_deed(self):
        for seed in range(25):
            rows = walkable_rows(seed)
            for day in (0, 2, 4):
                order = walk_order(rows, day)
                states = [play(thrown_world(), order[:at], day) for at in range(len(order) + 1)]
                for size in range(1, 5):
                    for houses in itertools.combinations(HOUSES, size):
                        for coin in ("x", "y"):
                            sums = [sum(state.purse(house).at(coin).top for house in houses) for state in states]
                            wanted = sorted((row[0], behind - ahead) for row, ahead, behind in zip(order, sums, sums[1:])
                                            if ahead != behind)
                            self.assertEqual(money_sheet(thrown_world(), rows, list(houses), coin, day), wanted)
                            self.assertTrue(fits(thrown_world(), rows, list(houses), coin, day, total=sums[-1], sheet=wanted))

    def test_things_piece_by_piece(self):
        for seed in range(25):
            rows = walkable_rows(seed)
            for day in range(5):
                state = play(thrown_world(), rows, day)
                for head in HOUSES:
                    since = spells(thrown_world(), rows, head, day)
                    spent = Purse()
                    for thing in ("corn", "b", "@a", "@b", "@c", "@d"):
                        wanted = {}
                        for house in since:
                            for count, path in state.pieces(house, thing):
                                row = wanted.setdefault(cut(path, since)[-1][0], [0, Purse()])
                                row[0] += count
                                row[1] = row[1].plus(cost(count, path, since=since))
                        found = thing_sheet(thrown_world(), rows, head, thing, day)
                        self.assertEqual(found, [(number, *wanted[number]) for number in sorted(wanted)])
                        if thing in ("corn", "b"):
                            for _, _, purses in found:
                                spent = spent.plus(purses)
                    self.assertEqual(spent, book_of(thrown_world(), rows, head, day).row("goods"))


if __name__ == "__main__":
    unittest.main()
