"""Points 28 to 32: books, what parts them, rates and purses told in a coin, earned and turned."""

import unittest

from oneroof.books import ROWS, Book, book_of, differ, earned, laid, rates, told_in, turned
from oneroof.errors import BadDay, NoHouse, NoRow, Ring, Short
from oneroof.packets import pack, together
from oneroof.parts import Part, Purse
from oneroof.states import play
from oneroof.steps import spells
from oneroof.worlds import World
from tests.deeds import thrown_world, walkable_rows

HOUSES = ("a", "b", "c", "d")
SHORT = ("sell", 2, "a", "corn", 1, "x", 1)
RING = ("get", 2, "a", "@a", 1, "x", 1)
NO_ROWS = ("", "Money", "moneys", "mone", "a", "x", "things", "came ", "moved")

STORY = [
    (1, ("fund", 0, "a", "x", 500)),
    (2, ("get", 0, "b", "corn", 10, "x", 40)),
    (14, ("fund", 0, "b", "y", 100)),
    (3, ("get", 1, "a", "@b", 12, "x", 96)),
    (4, ("hand", 2, "b", "a", "corn", 4, "x", 30)),
    (5, ("sell", 2, "a", "corn", 3, "x", 60)),
    (6, ("fee", 2, "b", "c", "x", 7)),
    (7, ("lend", 2, "c", "b", "y", 9)),
    (8, ("gain", 2, "b", "x", 11)),
    (9, ("get", 2, "b", "@d", 8, "y", 16)),
    (10, ("pay", 3, "b", "y", 2)),
    (11, ("hand", 3, "a", "c", "@b", 1, "x", 15)),
    (12, ("rate", 3, "x", 2000)),
    (13, ("sell", 4, "a", "@b", 11, "x", 99)),
]


def world():
    return World([("x", 1000), ("y", 250)], [("b", 20), ("a", 10), ("d", 40), ("c", 30)])


def purse(**amounts):
    return Purse([(coin, Part(amount)) for coin, amount in amounts.items()])


def numbered(*deeds):
    return list(enumerate(deeds, 1))


def story(day, head="a"):
    return book_of(world(), STORY, head, day)


def told(**rows):
    """All rows of a book, those that are not named with nothing."""
    return [(name, rows.get(name, Purse())) for name in ROWS]


def total(purses):
    found = Purse()
    for one in purses:
        found = found.plus(one)
    return found


class AlwaysEqual:
    def __eq__(self, other):
        return True


class Refusing(unittest.TestCase):
    def refused(self, error, fields, asked, *more, **named):
        with self.subTest(asked=asked, more=more):
            with self.assertRaises(error) as caught:
                asked(*more, **named)
            self.assertIs(type(caught.exception), error)
            self.assertEqual(vars(caught.exception), fields)


class Rows(Refusing):
    maxDiff = None

    def test_names_in_their_order(self):
        self.assertEqual(ROWS, ("money", "owed", "goods", "held", "fund", "gain", "sales", "fees", "paid", "shares", "came"))
        self.assertIsInstance(ROWS, tuple)
        for day in range(5):
            self.assertEqual([name for name, _ in story(day).rows()], list(ROWS))

    def test_on_day_0(self):
        book = story(0)
        self.assertIsInstance(book, Book)
        self.assertEqual((book.head, book.day, book.since_days()), ("a", 0, {"a": 0}))
        self.assertEqual(book.rows(), told(money=purse(x=500), fund=purse(x=500)))
        self.assertEqual(book.things(), purse(x=500))

    def test_what_came_in_with_a_house_on_the_day(self):
        book = story(1)
        self.assertEqual(book.since_days(), {"a": 0, "b": 1})
        self.assertEqual(book.rows(), told(money=purse(x=404 - 40, y=100), goods=purse(x=40), shares=purse(x=-96), came=purse(y=100)))
        self.assertEqual(book.things(), purse(x=404, y=100))

    def test_what_the_houses_did_among_themselves_is_not_in_it(self):
        self.assertEqual(story(2).rows(), told(
            money=purse(x=434 - 6, y=93), owed=purse(y=-9), goods=purse(x=28), held=purse(y=16), gain=purse(x=11),
            sales=purse(x=60 - 12), fees=purse(x=-7),
        ))

    def test_payments_by_share_and_dealings_in_shares_of_the_roof(self):
        self.assertEqual(story(3).rows(), told(
            money=purse(x=449 - 6, y=24 + 53), owed=purse(y=-9), goods=purse(x=28), held=purse(y=16), paid=purse(y=-16),
            shares=purse(x=15),
        ))

    def test_what_left_with_a_house_on_the_day(self):
        book = story(4)
        self.assertEqual(book.since_days(), {"a": 0})
        corn = Purse([("x", Part(30, 4))])
        self.assertEqual(book.rows(), told(
            money=purse(x=548, y=24), goods=corn, sales=purse(x=99 - 88),
            came=purse(x=449 + 88, y=24).plus(corn).minus(purse(x=471, y=84)),
        ))
        self.assertEqual(book.things(), purse(x=548, y=24).plus(corn))

    def test_a_house_that_comes_in_on_day_0(self):
        rows = numbered(("fund", 0, "b", "x", 70), ("get", 0, "a", "@b", 11, "y", 5), ("get", 0, "b", "corn", 2, "x", 9))
        book = book_of(world(), rows, "a", 0)
        self.assertEqual(book.rows(), told(money=purse(x=61, y=-5), goods=purse(x=9), fund=purse(x=70), shares=purse(y=-5)))
        self.assertEqual(book_of(world(), rows, "a", 1).rows(), told(money=purse(x=61, y=-5), goods=purse(x=9)))

    def test_a_house_that_leaves_and_comes_again(self):
        # What a handed on to b while b was away stays handed on: that link is not inner any more.
        rows = numbered(("get", 0, "a", "@b", 11, "x", 0), ("get", 0, "a", "corn", 6, "x", 12), ("hand", 1, "a", "b", "corn", 2, "x", 10),
                        ("sell", 2, "a", "@b", 11, "x", 0), ("hand", 2, "a", "b", "corn", 2, "x", 20), ("get", 3, "a", "@b", 11, "x", 0))
        self.assertEqual([book_of(world(), rows, "a", day).row("goods") for day in range(4)],
                         [purse(x=12), purse(x=12), purse(x=4), purse(x=4 + 10 + 20)])
        came = [book_of(world(), rows, "a", day).row("came") for day in range(4)]
        # With b go the 10 that it spent, and a's gain by its corn; back come 30 spent and corn for 30.
        self.assertEqual(came, [Purse(), Purse(), purse(x=10 - 4), purse(x=-30 + 30)])
        self.assertEqual(book_of(world(), rows, "a", 2).row("sales"), purse(x=20 - 4))

    def test_each_row_by_its_name(self):
        for day in range(5):
            for name, found in story(day).rows():
                self.assertEqual(story(day).row(name), found)

    def test_another_row(self):
        for name in NO_ROWS:
            self.refused(NoRow, {"name": name}, story(2).row, name)

    def test_told_lists_and_dicts_are_the_askers_own(self):
        rows = list(STORY)
        book = book_of(world(), rows, "a", 2)
        self.assertEqual(rows, STORY)
        rows.clear()
        self.assertEqual({type(row) for row in book.rows()}, {tuple})
        book.rows().clear()
        book.since_days().clear()
        book.since_days()["c"] = 0
        self.assertEqual(book, story(2))
        self.assertEqual((len(book.rows()), book.since_days()), (11, {"a": 0, "b": 1}))


class Asking(Refusing):
    ASKED = (book_of, earned, turned)

    def test_house_then_day_then_the_walk(self):
        for asked in self.ASKED:
            for house in ("e", "", "x", "@a"):
                for day in (3, 30, -1):
                    self.refused(NoHouse, {"name": house}, asked, world(), numbered(SHORT), house, day)
            for day in (-1, 30, 1000):
                self.refused(BadDay, {"day": day}, asked, world(), numbered(SHORT), "b", day)
            for day in (2, 3, 29):
                self.refused(Short, {"number": 1}, asked, world(), numbered(SHORT, RING), "b", day)
                self.refused(Ring, {"number": 1, "ring": ["a"]}, asked, world(), numbered(RING, SHORT), "b", day)
            asked(world(), numbered(SHORT, RING), "b", 1)

    def test_rates(self):
        for day in (-1, 30, 1000):
            self.refused(BadDay, {"day": day}, rates, world(), numbered(SHORT), day)
        self.refused(Short, {"number": 1}, rates, world(), numbered(SHORT, RING), 2)
        self.refused(Ring, {"number": 1, "ring": ["a"]}, rates, world(), numbered(RING, SHORT), 29)
        self.assertEqual(rates(world(), numbered(SHORT, RING), 1), {"x": 1000, "y": 250})


class LengthAndShow(unittest.TestCase):
    def test_rows_that_are_not_nought(self):
        self.assertEqual([len(story(day)) for day in range(5)], [2, 4, 7, 6, 4])
        self.assertEqual(len(book_of(world(), [], "a", 7)), 0)

    def test_show(self):
        self.assertEqual(repr(story(3)), "Book(a, day 3)")
        self.assertEqual(str(story(0, "d")), "Book(d, day 0)")


class Equality(unittest.TestCase):
    def alone(self, what, one, other):
        found = {"head": one.head != other.head, "day": one.day != other.day, "since": one.since_days() != other.since_days()}
        found.update({name: one.row(name) != other.row(name) for name in ROWS})
        self.assertEqual({name for name in found if found[name]}, set(what))
        self.assertFalse(one == other)
        self.assertFalse(other == one)
        self.assertTrue(one != other)

    def after(self, *deeds, head="a", day=3):
        return book_of(world(), numbered(*deeds), head, day)

    def test_equal_however_the_deeds_came(self):
        for day in range(6):
            self.assertTrue(story(day) == book_of(world(), STORY[::-1], "a", day))
            self.assertFalse(story(day) != story(day))
        self.assertEqual(self.after(), self.after(("fund", 4, "a", "x", 5)))

    def test_head_day_and_since_days(self):
        self.alone(["day"], self.after(day=3), self.after(day=4))
        got, got_late = ("get", 1, "a", "@b", 11, "x", 0), ("get", 2, "a", "@b", 11, "x", 0)
        self.alone(["since"], self.after(got), self.after(got_late))
        self.alone(["since"], self.after(got), self.after())
        self.alone(["head", "since"], self.after(), self.after(head="b"))

    def test_head_alone(self):
        # No two heads rule the same houses from the same days on, so the since-days differ, too.
        one, other = self.after(), self.after(head="b")
        self.assertEqual(one.rows(), other.rows())
        self.assertNotEqual(one, other)
        self.assertFalse(Book("a", 3, {"a": 0}, one.rows()) == Book("b", 3, {"a": 0}, one.rows()))

    def test_each_row(self):
        rows = story(2).rows()
        for at, (name, found) in enumerate(rows):
            changed = rows[:at] + [(name, found.plus(purse(y=1)))] + rows[at + 1:]
            self.alone([name], Book("a", 2, {"a": 0}, rows), Book("a", 2, {"a": 0}, changed))
        self.alone(["money", "goods"], self.after(("get", 1, "a", "corn", 1, "x", 5)), self.after())

    def test_nothing_else(self):
        book = story(2)
        for other in (None, 0, "Book(a, day 2)", book.rows(), dict(book.rows()), book.things(), AlwaysEqual(),
                      pack(world(), STORY, "a", 2)):
            self.assertFalse(book.__eq__(other))
            self.assertTrue(book.__ne__(other))


class Differing(Refusing):
    def test_second_less_first_in_order(self):
        self.assertEqual(differ(story(2), story(3)), [
            ("money", purse(x=15, y=-16)), ("gain", purse(x=-11)), ("sales", purse(x=-48)), ("fees", purse(x=7)),
            ("paid", purse(y=-16)), ("shares", purse(x=15)),
        ])
        self.assertEqual(differ(story(0), book_of(world(), [], "a", 0)), [("money", purse(x=-500)), ("fund", purse(x=-500))])

    def test_equal_books_and_books_of_equal_rows(self):
        self.assertEqual(differ(story(3), story(3)), [])
        self.assertEqual(differ(book_of(world(), [], "a", 0), book_of(world(), [], "b", 7)), [])

    def test_laid_upon_the_first_rows_they_tell_the_second_ones(self):
        for one in range(6):
            for other in range(6):
                moves = differ(story(one), story(other))
                self.assertEqual(laid(story(one).rows(), moves), story(other).rows())
                self.assertEqual([name for name, _ in moves], [name for name in ROWS if name in dict(moves)])
                self.assertTrue(all(len(found) > 0 for _, found in moves))

    def test_no_moves(self):
        for day in range(5):
            self.assertEqual(laid(story(day).rows(), []), story(day).rows())

    def test_rows_several_times_among_the_moves_in_any_order(self):
        moves = [("came", purse(x=1)), ("money", purse(y=3)), ("came", purse(x=2, y=5)), ("money", purse(y=-80)), ("owed", Purse())]
        self.assertEqual(laid(story(3).rows(), moves), told(
            money=purse(x=443), owed=purse(y=-9), goods=purse(x=28), held=purse(y=16), paid=purse(y=-16), shares=purse(x=15),
            came=purse(x=3, y=5),
        ))

    def test_rows_in_another_order(self):
        self.assertEqual(laid(story(2).rows()[::-1], [("fund", purse(x=1))]), laid(story(2).rows(), [("fund", purse(x=1))]))

    def test_first_name_that_is_no_row(self):
        for name in NO_ROWS:
            self.refused(NoRow, {"name": name}, laid, story(2).rows(), [(name, purse(x=1))])
            moves = [("money", purse(x=1)), (name, Purse()), ("another", purse(x=1)), ("came", purse(x=1))]
            self.refused(NoRow, {"name": name}, laid, story(2).rows(), moves)
        self.refused(NoRow, {"name": "b"}, laid, story(2).rows(), [("b", Purse()), ("a", Purse())])

    def test_what_is_handed_in_stays_and_told_lists_are_the_askers_own(self):
        rows, moves = story(2).rows(), [("came", purse(x=1)), ("money", purse(y=3))]
        before = list(rows)
        found = laid(rows, moves)
        self.assertEqual((rows, moves), (before, [("came", purse(x=1)), ("money", purse(y=3))]))
        self.assertEqual([type(found)] + [type(row) for row in found], [list] + [tuple] * 11)
        found.clear()
        self.assertEqual((rows, story(2).rows()), (before, before))
        differ(story(2), story(3)).clear()
        self.assertEqual(len(differ(story(2), story(3))), 6)


class RatesAndCoins(unittest.TestCase):
    def test_of_all_coins_by_the_last_deed_up_to_the_days_end(self):
        rows = [(8, ("rate", 2, "x", 7)), (5, ("rate", 2, "x", 9)), (3, ("rate", 4, "x", 11)), (2, ("rate", 3, "y", 1))]
        for day, x, y in ((0, 1000, 250), (1, 1000, 250), (2, 7, 250), (3, 7, 1), (4, 11, 1), (29, 11, 1)):
            self.assertEqual(rates(world(), rows, day), {"x": x, "y": y})

    def test_told_dict_is_the_askers_own(self):
        rows = list(STORY)
        rates(world(), rows, 3).clear()
        self.assertEqual((rates(world(), rows, 3), rows), ({"x": 2000, "y": 250}, STORY))

    def test_told_in_none_and_in_a_coin(self):
        mixed, by_rates = purse(x=3, y=-4), {"x": 1500, "y": 250, "z": 7}
        self.assertEqual(told_in(mixed, by_rates), Part(7, 2))
        self.assertEqual(told_in(mixed, by_rates, into=None), Part(7, 2))
        self.assertEqual(told_in(mixed, by_rates, into="x"), Part(7, 3))
        self.assertEqual(told_in(mixed, by_rates, into="y"), Part(14))
        self.assertEqual(told_in(mixed, by_rates, into="z"), Part(500))
        self.assertIsInstance(told_in(mixed, by_rates, into="z"), Part)
        self.assertEqual(by_rates, {"x": 1500, "y": 250, "z": 7})

    def test_nothing_in_any_coin(self):
        for into in (None, "x"):
            self.assertEqual(told_in(Purse(), {"x": 3}, into=into), Part(0))

    def test_a_purse_of_one_coin_told_in_it_is_what_it_holds(self):
        for rate in (1, 333, 1000000000):
            self.assertEqual(told_in(Purse([("y", Part(-22, 7))]), {"y": rate}, into="y"), Part(-22, 7))


class EarnedAndTurned(unittest.TestCase):
    def test_by_each_days_rates(self):
        wanted = (Part(500), Part(429), Part(481), Part(507), Part(661))
        for day, part in enumerate(wanted):
            self.assertEqual(earned(world(), STORY, "a", day), part)
        self.assertEqual(earned(world(), STORY, "a", 29), Part(661))

    def test_what_stood_through_a_change_of_rates(self):
        for day, part in enumerate((0, 0, 0, 456, 456)):
            self.assertEqual(turned(world(), STORY, "a", day), Part(part))
        rows = numbered(("fund", 0, "a", "x", 5), ("fund", 0, "a", "y", 8), ("rate", 0, "x", 3000), ("rate", 1, "x", 2500),
                        ("fund", 1, "a", "x", 90), ("rate", 2, "y", 1000), ("rate", 2, "x", 2501), ("fund", 2, "a", "x", -90))
        self.assertEqual([turned(world(), rows, "a", day) for day in range(4)],
                         [Part(0), Part(-5, 2), Part(-5, 2).plus(Part(95, 1000)).plus(Part(6))] + [Part(719, 200)])
        self.assertEqual(earned(world(), rows, "a", 1), Part(15 + 2 + 225))

    def test_both_together_are_the_worth_of_the_things(self):
        for day in range(30):
            both = earned(world(), STORY, "a", day).plus(turned(world(), STORY, "a", day))
            self.assertEqual(both, story(day).things().worth(rates(world(), STORY, day)))

    def test_of_nothing(self):
        for asked in (earned, turned):
            self.assertEqual(asked(world(), [], "a", 29), Part(0))

    def test_rows_stay(self):
        rows = list(STORY)
        earned(world(), rows, "a", 5)
        turned(world(), rows, "a", 5)
        self.assertEqual(rows, STORY)


class ThrownBooks(unittest.TestCase):
    def test_rows_are_those_of_the_joined_packets(self):
        met = 0
        for seed in range(30):
            rows = walkable_rows(seed)
            for head in HOUSES:
                before = Purse()
                for day in range(6):
                    with self.subTest(seed=seed, head=head, day=day):
                        since = spells(thrown_world(), rows, head, day)
                        packets, openings = [
                            together([pack(thrown_world(), rows, house, day, since=since[house], opening=opening) for house in since])
                            for opening in (False, True)
                        ]
                        book = book_of(thrown_world(), rows, head, day)
                        came = openings.things().minus(before)
                        self.assertEqual(book.rows(), packets.rows() + [("came", came)])
                        self.assertEqual((book.head, book.day, book.since_days()), (head, day, since))
                        self.assertEqual(book.things(), packets.things())
                        done = [book.row(name) for name in ("came", "fund", "gain", "sales", "fees", "paid", "shares")]
                        self.assertEqual(book.things(), before.plus(total(done)))
                        before = book.things()
                        met += len(came) > 0
        self.assertGreater(met, 20)

    def test_earned_and_turned(self):
        met = 0
        for seed in range(30):
            rows = walkable_rows(seed)
            for head in HOUSES:
                gone, won = Part(0), Part(0)
                for day in range(6):
                    by_rates = rates(thrown_world(), rows, day)
                    book = book_of(thrown_world(), rows, head, day)
                    for name in ROWS[4:]:
                        won = won.plus(told_in(book.row(name), by_rates))
                    if day > 0:
                        things = book_of(thrown_world(), rows, head, day - 1).things()
                        ahead = rates(thrown_world(), rows, day - 1)
                        gone = gone.plus(told_in(things, by_rates)).minus(told_in(things, ahead))
                    self.assertEqual(earned(thrown_world(), rows, head, day), won)
                    self.assertEqual(turned(thrown_world(), rows, head, day), gone)
                    self.assertEqual(won.plus(gone), told_in(book.things(), by_rates))
                met += gone.sign() != 0
        self.assertGreater(met, 50)

    def test_rates_are_those_of_the_state(self):
        for seed in range(30):
            rows = walkable_rows(seed)
            for day in range(6):
                state = play(thrown_world(), rows, day)
                self.assertEqual(rates(thrown_world(), rows, day), {"x": state.rate("x"), "y": state.rate("y")})


if __name__ == "__main__":
    unittest.main()
