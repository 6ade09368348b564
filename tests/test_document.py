"""Points 1 to 45: the whole document once more, each point in short; the other files test them at length."""

import re
import unittest

from oneroof import errors
from oneroof.books import ROWS, book_of, differ, earned, laid, rates, told_in, turned
from oneroof.desks import Desk
from oneroof.forms import form_worth, read_form, show_form
from oneroof.owners import by_chains, chains, ruled, share
from oneroof.packets import empty, join, pack, together
from oneroof.pages import read_page, write_page
from oneroof.parts import Part, Purse
from oneroof.paths import cost, cut, fresh, inner
from oneroof.roofs import Roof
from oneroof.sheets import fits, money_sheet, thing_sheet
from oneroof.stakes import own_worth, parts_of, worth_of
from oneroof.states import play
from oneroof.steps import coming, spells
from oneroof.words import deed_text, read_deed
from oneroof.worlds import World, need_day, need_deed, need_house, need_thing

# a rules b from day 1 on; b hands corn on to a, and a sells some of it.
DEEDS = [
    (1, ("fund", 0, "a", "x", 100)),
    (2, ("get", 1, "a", "@b", 6, "x", 30)),
    (3, ("get", 1, "b", "corn", 4, "y", 8)),
    (4, ("hand", 2, "b", "a", "corn", 2, "x", 10)),
    (5, ("sell", 2, "a", "corn", 1, "x", 9)),
    (6, ("lend", 2, "c", "b", "y", 5)),
    (7, ("pay", 3, "b", "x", 1)),
    (8, ("rate", 3, "y", 2000)),
    (9, ("fee", 3, "a", "b", "x", 3)),
    (10, ("split", 3, "b", 2)),
]
CORN = (3, 1, "", "b", "y", 8, 4)
CORN_TO_A = (4, 2, "b", "a", "x", 10, 2)
SHARES = (2, 1, "", "a", "x", 30, 6)
SINCE = {"a": 0, "b": 1}


def world():
    return World([("x", 1000), ("y", 500)], [("b", 10), ("a", 5), ("c", 7)])


def purse(**amounts):
    return Purse([(coin, Part(amount)) for coin, amount in amounts.items()])


def at_end():
    return play(world(), DEEDS, 3)


def roof_of(rows=tuple(DEEDS)):
    roof = Roof(world())
    roof.tell_all([deed for _, deed in rows])
    return roof


class Points(unittest.TestCase):
    def refused(self, error, fields, asked, *more, **named):
        with self.subTest(asked=asked, more=more):
            with self.assertRaises(error) as caught:
                asked(*more, **named)
            self.assertIs(type(caught.exception), error)
            self.assertEqual(vars(caught.exception), fields)

    def test_point_01_nothing_is_kept_or_changed_and_all_is_exact(self):
        deeds = list(DEEDS)
        packet, book, roof = pack(world(), deeds, "a", 3), book_of(world(), deeds, "a", 3), roof_of()
        self.assertEqual(deeds, DEEDS)
        deeds.clear()
        for told in (packet.pieces, packet.owed, packet.since_days, book.rows, book.since_days, roof.stands, roof.tellings):
            before = told()
            told().clear()
            self.assertEqual(told(), before)
        self.assertEqual(Part(10 ** 40, 3).times(Part(3)), Part(10 ** 40))

    def test_point_02_parts(self):
        self.assertEqual((Part(6, -8).top, Part(6, -8).low, repr(Part(6, -8)), repr(Part(0, 7))), (-3, 4, "-3/4", "0"))
        self.assertFalse(Part(3) == 3)
        self.refused(errors.NoMeasure, {}, Part, 1, 0)
        self.refused(errors.NoMeasure, {}, Part(1).over, Part(0))

    def test_point_03_purses(self):
        held = Purse([("y", Part(-1, 2)), ("x", Part(1)), ("z", Part(0)), ("x", Part(2))])
        self.assertEqual((repr(held), held.coins(), len(held), repr(Purse())), ("3 x, -1/2 y", ["x", "y"], 2, "nought"))
        self.assertEqual(held, Purse([("x", Part(3)), ("y", Part(-1, 2))]))

    def test_point_04_worth_by_rates(self):
        self.assertEqual(purse(x=3, y=-2).worth({"x": 1500, "y": 250, "z": 1}), Part(4))

    def test_point_05_worlds(self):
        self.assertEqual(world().house_rows(), [("b", 10), ("a", 5), ("c", 7)])
        World([("a", 1)], [("a", 1)])
        self.refused(errors.BadCount, {"count": 0}, World, [], [("A", 0)])
        self.refused(errors.BadName, {"name": "Xy"}, World, [("Xy", 0)], [])
        self.refused(errors.Taken, {"name": "a"}, World, [("x", 1)], [("a", 1), ("a", 0)])
        self.refused(errors.BadNumber, {"number": 1000001}, World, [("x", 1)], [("a", 1000001)])

    def test_point_06_days_and_things(self):
        need_day(0)
        need_day(29)
        for day in (-1, 30):
            self.refused(errors.BadDay, {"day": day}, need_day, day)
        need_thing(world(), "corn")
        need_thing(world(), "@b")
        self.refused(errors.BadName, {"name": "Corn"}, need_thing, world(), "Corn")
        self.refused(errors.NoHouse, {"name": "z"}, need_thing, world(), "@z")

    def test_point_07_deeds_of_all_kinds(self):
        for _, deed in DEEDS:
            need_deed(world(), deed)
        need_deed(world(), ("gain", 0, "a", "x", -1000000000000))
        self.refused(errors.BadNumber, {"number": 0}, need_deed, world(), ("gain", 0, "a", "x", 0))
        self.refused(errors.BadNumber, {"number": 10}, need_deed, world(), ("split", 0, "a", 10))

    def test_point_08_how_a_deed_is_looked_at(self):
        for deed in ((), ("give", 1), ("split", 1, "a"), ("fee", 1, "a", "a", "x", 5)):
            self.refused(errors.BadDeed, {}, need_deed, world(), deed)
        self.refused(errors.BadDay, {"day": 30}, need_deed, world(), ("fee", 30, "z", "z", "z", 0))
        self.refused(errors.NoHouse, {"name": "z"}, need_deed, world(), ("fee", 3, "z", "z", "z", 0))
        self.refused(errors.NoCoin, {"name": "z"}, need_deed, world(), ("fee", 3, "a", "a", "z", 0))

    def test_point_09_deeds_as_text(self):
        for _, deed in DEEDS:
            self.assertEqual(read_deed(world(), deed_text(deed)), deed)
        self.assertEqual(deed_text(DEEDS[3][1]), "hand 2 b a corn 2 x 10")
        self.refused(errors.BadText, {"line": 1}, read_deed, world(), "split 03 b 2")

    def test_point_10_walked_by_day_and_number(self):
        self.assertEqual(play(world(), DEEDS[::-1], 3).pieces("b", "corn"), at_end().pieces("b", "corn"))
        self.assertEqual((play(world(), [], 0).free("b"), play(world(), [], 0).purse("b")), (10, Purse()))

    def test_point_11_pieces_and_paths(self):
        self.assertEqual(at_end().pieces("a", "corn"), [(1, (CORN, CORN_TO_A))])
        self.assertEqual(at_end().pieces("b", "corn"), [(2, (CORN,))])

    def test_point_12_short_and_ring(self):
        self.refused(errors.Short, {"number": 11}, play, world(), DEEDS + [(11, ("sell", 3, "a", "corn", 2, "x", 1))], 3)
        self.refused(errors.Ring, {"number": 11, "ring": ["b", "a"]}, play, world(), DEEDS + [(11, ("get", 3, "b", "@a", 1, "x", 1))], 3)

    def test_point_13_splits(self):
        self.assertEqual((at_end().made("b"), at_end().free("b")), (20, 8))
        self.assertEqual(at_end().pieces("a", "@b"), [(12, (SHARES[:-1] + (12,),))])

    def test_point_14_houses_then_the_day_then_the_walk_to_its_end(self):
        rows = [(1, ("sell", 2, "a", "corn", 1, "x", 1))]
        self.refused(errors.NoHouse, {"name": "z"}, pack, world(), rows, "z", 30)
        self.refused(errors.BadDay, {"day": 30}, pack, world(), rows, "a", 30)
        self.refused(errors.Short, {"number": 1}, pack, world(), rows, "b", 2)
        self.assertEqual(len(pack(world(), rows, "a", 1)), 1)

    def test_point_15_who_rules_whom(self):
        self.assertEqual(ruled(at_end(), "a"), [("a", 0), ("b", 12)])
        self.assertEqual(ruled(play(world(), [(1, ("get", 0, "a", "@b", 5, "x", 1))], 0), "a"), [("a", 0)])

    def test_point_16_shares_and_chains(self):
        self.assertEqual(share(at_end(), ["a", "a", "c"], "b"), Part(3, 5))
        self.assertEqual((chains(at_end(), "a", "b"), chains(at_end(), "b", "a")), ([("a", "b")], []))
        self.assertEqual((by_chains(at_end(), "a", "b"), by_chains(at_end(), "c", "c")), (Part(3, 5), Part(1)))

    def test_point_17_inner_links_cut_paths_and_cost(self):
        self.assertTrue(inner(CORN_TO_A, SINCE))
        self.assertFalse(inner(CORN_TO_A, {"a": 0, "b": 3}))
        self.assertEqual(cut((CORN, CORN_TO_A), SINCE), (CORN,))
        self.assertEqual(cost(1, (CORN, CORN_TO_A), since=SINCE), purse(y=2))
        self.assertEqual(cost(1, (CORN, CORN_TO_A)), purse(x=5))

    def test_point_18_fresh_links(self):
        self.assertEqual(fresh(1, (CORN, CORN_TO_A), SINCE), [("b", purse(x=5, y=-2))])
        self.assertEqual(fresh(1, (CORN, CORN_TO_A), {"a": 0}), [])

    def test_point_19_packets(self):
        packet = pack(world(), DEEDS, "b", 3, since=1)
        self.assertEqual((packet.day, packet.money(), packet.owed()), (3, purse(x=10 - 10 + 3, y=-8 + 5), {"c": purse(y=-5)}))
        self.assertEqual((packet.fees(), packet.paid()), ({"a": purse(x=3)}, {"a": purse(x=-6), "": purse(x=-4)}))

    def test_point_20_sales_and_opening_packets(self):
        packet = pack(world(), DEEDS, "a", 2)
        self.assertEqual((packet.sales(), packet.sold()), ([("", "corn", purse(x=9))], [("", "corn", (CORN, CORN_TO_A), 1)]))
        opening = pack(world(), DEEDS, "a", 2, opening=True)
        self.assertEqual((opening.day, opening.money(), opening.sales()), (2, purse(x=70), []))
        self.assertEqual(pack(world(), DEEDS, "a", 0, opening=True).money(), Purse())

    def test_point_21_joining(self):
        one, other = pack(world(), DEEDS, "a", 3), pack(world(), DEEDS, "b", 3, since=1)
        joined = join(one, other)
        self.assertEqual(joined, together([other, empty(3), one]))
        self.assertEqual((joined.fees(), joined.paid(), joined.pieces()), ({}, {"": purse(x=-4)}, [("corn", (CORN,), 3)]))
        self.refused(errors.Clash, {}, join, one, one)
        self.refused(errors.Clash, {}, join, one, empty(2))

    def test_point_22_rows_of_a_packet(self):
        joined = join(pack(world(), DEEDS, "a", 2), pack(world(), DEEDS, "b", 2, since=1))
        self.assertEqual(dict(joined.rows())["sales"], purse(x=9, y=-2))
        self.assertEqual(joined.things(), purse(x=79, y=-8 + 5 - 5 + 6))

    def test_point_23_packets_equal_length_and_show(self):
        joined = join(pack(world(), DEEDS, "b", 3), pack(world(), DEEDS, "a", 3))
        self.assertEqual((len(joined), repr(joined)), (2, "Packet(3: a b)"))
        self.assertFalse(pack(world(), DEEDS, "b", 3) == pack(world(), DEEDS, "b", 3, since=1))

    def test_point_24_worth(self):
        # What b gained by the one piece that lies at a is not b's own.
        self.assertEqual(own_worth(at_end(), SINCE, "b"), purse(x=3 - 5, y=-3 - 5 + 4 + 2))
        self.assertEqual(own_worth(at_end(), SINCE, "a"), purse(x=100 - 30 - 10 + 9 + 6 - 3 + 5))
        self.assertEqual(worth_of(at_end(), SINCE, "a"), own_worth(at_end(), SINCE, "a").plus(purse(x=-2, y=-2).times(Part(3, 5))))

    def test_point_25_parts(self):
        parts = parts_of(at_end(), SINCE, "a")
        self.assertEqual(parts, [("a", worth_of(at_end(), SINCE, "a")), ("b", purse(x=-2, y=-2).times(Part(2, 5)))])
        self.assertEqual(parts[0][1].plus(parts[1][1]), book_of(world(), DEEDS, "a", 3).things())

    def test_point_26_since_days(self):
        self.assertEqual(spells(world(), DEEDS, "a", 3), SINCE)
        gone = DEEDS + [(11, ("sell", 4, "a", "@b", 6, "x", 1)), (12, ("get", 6, "a", "@b", 6, "x", 1))]
        self.assertEqual([spells(world(), gone, "a", day).get("b") for day in (0, 3, 4, 5, 6, 9)], [None, 1, None, None, 6, 6])

    def test_point_27_coming_in(self):
        told = coming(world(), DEEDS, "a", "b", 3)
        self.assertEqual((told.house, told.day, told.count, told.spent, told.basis), ("b", 1, 6, purse(x=30), purse(x=30)))
        self.assertEqual((told.part, told.surplus(), told.step(), repr(told)), (Purse(), purse(x=30), Purse(), "Coming(b, day 1)"))
        for house in ("a", "c"):
            self.refused(errors.NotRuled, {"name": house}, coming, world(), DEEDS, "a", house, 3)

    def test_point_28_books(self):
        book = book_of(world(), DEEDS, "a", 3)
        self.assertEqual([name for name, _ in book.rows()], list(ROWS))
        self.assertEqual((book.row("money"), book.row("paid"), book.row("came")), (purse(x=75, y=-3), purse(x=-4), Purse()))
        late = DEEDS + [(11, ("sell", 4, "a", "@b", 12, "x", 30))]
        # a leaves with its corn for 5 and its shares for 30, instead of what b and it had together.
        self.assertEqual(book_of(world(), late, "a", 4).row("came"), purse(x=72 + 5 + 30).minus(book.things()))
        self.refused(errors.NoRow, {"name": "things"}, book.row, "things")

    def test_point_29_books_equal_length_and_show(self):
        book = book_of(world(), DEEDS, "a", 3)
        self.assertEqual((len(book), repr(book)), (4, "Book(a, day 3)"))
        self.assertTrue(book == book_of(world(), DEEDS[::-1], "a", 3))
        self.assertFalse(book == book_of(world(), DEEDS, "a", 4))

    def test_point_30_what_parts_books(self):
        one, other = book_of(world(), DEEDS, "a", 2), book_of(world(), DEEDS, "a", 3)
        self.assertEqual(differ(one, other), [("money", purse(x=-4)), ("sales", purse(x=-9, y=2)), ("paid", purse(x=-4))])
        self.assertEqual(laid(one.rows(), differ(one, other)), other.rows())
        self.refused(errors.NoRow, {"name": "x"}, laid, one.rows(), [("came", Purse()), ("x", Purse()), ("y", Purse())])

    def test_point_31_rates(self):
        self.assertEqual((rates(world(), DEEDS, 2), rates(world(), DEEDS, 3)), ({"x": 1000, "y": 500}, {"x": 1000, "y": 2000}))
        self.assertEqual(told_in(purse(x=3, y=1), {"x": 1000, "y": 2000}), Part(5))
        self.assertEqual(told_in(purse(x=3, y=1), {"x": 1000, "y": 2000}, into="y"), Part(5, 2))

    def test_point_32_earned_and_turned(self):
        self.assertEqual([earned(world(), DEEDS, "a", day) for day in range(4)], [Part(100), Part(70), Part(78), Part(74)])
        self.assertEqual([turned(world(), DEEDS, "a", day) for day in range(4)], [Part(0), Part(0), Part(0), Part(-3)])
        self.assertEqual(book_of(world(), DEEDS, "a", 3).things().worth(rates(world(), DEEDS, 3)), Part(71))

    def test_point_33_sheets_of_money(self):
        told = [(1, 100), (2, -30), (5, 9), (7, -4)]
        self.assertEqual(money_sheet(world(), DEEDS, ["b", "a", "b"], "x", 3), told)
        self.assertTrue(fits(world(), DEEDS, ["a", "b"], "x", 3, total=75, sheet=told))
        self.assertFalse(fits(world(), DEEDS, ["a", "b"], "x", 3, total=74, sheet=told))
        self.assertFalse(fits(world(), DEEDS, ["a", "b"], "x", 3, total=75, sheet=told[::-1]))

    def test_point_34_sheets_of_things(self):
        self.assertEqual(thing_sheet(world(), DEEDS, "a", "corn", 3), [(3, 3, purse(y=6))])
        self.assertEqual(thing_sheet(world(), DEEDS, "a", "@b", 3), [(2, 12, purse(x=30))])

    def test_point_35_forms(self):
        self.assertEqual(read_form("-2 * (money - 003*gain) + came"), [("money", -2), ("gain", 6), ("came", 1)])
        for text in ("", "0", "2 money", "money * 2", "money - -gain", "1234567 * money", " " * 196 + "money", "(" * 11 + "money" + ")" * 11):
            self.refused(errors.BadForm, {}, read_form, text)
        self.refused(errors.NoRow, {"name": "moneys"}, read_form, "money + moneys")

    def test_point_36_forms_shown_and_their_worth(self):
        self.assertEqual((show_form([("money", -2), ("came", 1)]), show_form([])), ("-2 * money + came", "0"))
        self.assertEqual(form_worth([("money", -2), ("paid", 1)], book_of(world(), DEEDS, "a", 3).rows()), purse(x=-154, y=6))

    def test_point_37_tellings(self):
        roof = roof_of(DEEDS[:5])
        self.assertEqual(roof.tell(DEEDS[5][1]), 6)
        self.refused(errors.Short, {"number": 5}, roof.strike, 4)
        roof.right(1, ("fund", 0, "a", "x", 7))
        roof.strike(6)
        self.assertEqual((roof.stands()[0], len(roof.stands())), ((1, ("fund", 0, "a", "x", 7)), 5))
        roof.tell_all([DEEDS[0][1]] * 52)
        self.refused(errors.Full, {}, roof.strike, 1)

    def test_point_38_order_of_refusals(self):
        roof = roof_of(DEEDS[:5] + [(number, DEEDS[0][1]) for number in range(6, 61)])
        self.refused(errors.NoTelling, {"number": 61}, roof.right, 61, ("fund", 30, "a", "x", 1))
        self.refused(errors.BadDay, {"day": 30}, roof.right, 4, ("fund", 30, "a", "x", 1))
        self.refused(errors.Full, {}, roof.strike, 4)
        roof.undo()
        self.refused(errors.Short, {"number": 5}, roof.strike, 4)

    def test_point_39_several_at_once_undo_and_redo(self):
        roof = Roof(world())
        self.assertEqual(roof.tell_all([deed for _, deed in DEEDS[:3]]), [1, 2, 3])
        roof.undo()
        self.refused(errors.BadDeed, {}, roof.tell_all, [DEEDS[0][1], ("give", 1)])
        self.assertEqual(roof.tell_all([]), [])
        roof.redo()
        self.assertEqual(roof.stands(), DEEDS[:3])
        self.refused(errors.Nothing, {}, roof.redo)
        self.refused(errors.Nothing, {}, Roof(world()).undo)

    def test_point_40_as_known(self):
        roof = roof_of()
        for known in range(11):
            self.assertEqual(roof.stands(known=known), DEEDS[:known])
            self.assertEqual(roof.book("a", 3, known=known), book_of(world(), DEEDS[:known], "a", 3))
        self.assertEqual(roof.stands(known=None), DEEDS)
        for known in (-1, 11):
            self.refused(errors.NoTelling, {"number": known}, roof.book, "a", 3, known=known)
            self.refused(errors.BadDay, {"day": 30}, roof.book, "a", 30, known=known)

    def test_point_41_given_out_books(self):
        roof = roof_of(DEEDS[:1])
        self.assertEqual(roof.give("a", 0), 1)
        roof.right(1, ("fund", 0, "a", "x", 70))
        self.assertEqual(roof.moved(1), [("money", purse(x=-30)), ("fund", purse(x=-30))])
        self.assertEqual(roof.given(), [book_of(world(), DEEDS[:1], "a", 0)])
        self.refused(errors.NoTelling, {"number": 2}, roof.moved, 2)
        for number in range(2, 31):
            self.assertEqual(roof.give("b", 3), number)
        self.refused(errors.Full, {}, roof.give, "b", 3)
        self.refused(errors.BadDay, {"day": 30}, roof.give, "b", 30)

    def test_point_42_what_if(self):
        roof = roof_of(DEEDS[:3])
        roof.undo()
        self.assertEqual(roof.what_if([deed for _, deed in DEEDS[2:]], "a", 3), book_of(world(), DEEDS, "a", 3))
        self.refused(errors.Short, {"number": 3}, roof.what_if, [DEEDS[3][1]], "z", 30)
        roof.redo()
        self.assertEqual(roof.stands(), DEEDS[:3])

    def test_point_43_twins_equality_length_and_show(self):
        roof = roof_of(DEEDS[:3])
        roof.undo()
        twin = roof.twin()
        twin.redo()
        self.assertEqual((len(roof), len(twin), repr(roof), repr(twin)), (2, 3, "Roof(3 houses, 2 tellings)", "Roof(3 houses, 3 tellings)"))
        self.assertFalse(roof == twin)
        roof.redo()
        self.assertTrue(roof == twin)
        roof.give("a", 0)
        self.assertFalse(roof == twin)

    def test_point_44_pages(self):
        roof = roof_of()
        roof.strike(9)
        page = write_page(roof)
        self.assertTrue(page.startswith("coin x 1000\ncoin y 500\nhouse b 10\nhouse a 5\nhouse c 7\ntell fund 0 a x 100\n"))
        self.assertTrue(page.endswith("\ntell split 3 b 2\nstrike 9\n"))
        self.assertEqual(read_page(page), roof)
        self.refused(errors.BadText, {"line": 7}, read_page, page.replace("tell get 1 a @b 6", "tell get 1 a @b 06"))
        self.refused(errors.BadText, {"line": 17}, read_page, page + "strike 9\n")
        with self.assertRaises(errors.BadText):
            read_page(page[:-1])

    def test_point_45_desks(self):
        desk = Desk(Roof(world()))
        for number, deed in DEEDS:
            self.assertEqual(desk.ask("tell " + deed_text(deed)), str(number))
        for line, answer in (
            ("things a 3", "75 x, -2 y"), ("row paid a 3", "-4 x"), ("form a 3 -2 * money + paid", "-154 x, 6 y"), ("rules a 3", "a b"),
            ("parts a 0", "a 100 x"), ("strike 4", "refused Short"), ("right 10 split 3 b 3", "done"), ("undo", "done"), ("redo", "done"),
            ("redo", "refused Nothing"), ("row no z 30", "refused NoRow"), ("things z 30", "refused NoHouse"), ("things a 30", "refused BadDay"),
            ("things a 03", "refused BadText"), ("tell fund 30 a x 1", "refused BadText"), ("form a 30 0", "refused BadForm"),
            ("strike 11", "refused NoTelling"), ("hello", "refused BadText"),
        ):
            with self.subTest(line=line):
                self.assertEqual(desk.ask(line), answer)

    def test_each_point_has_a_test(self):
        found = [int(name[11:13]) for name in dir(self) if re.match("test_point_[0-9][0-9]_", name)]
        self.assertEqual(sorted(found), list(range(1, 46)))

    def test_houses_are_looked_at_first(self):
        self.refused(errors.NoHouse, {"name": "z"}, need_house, world(), "z")
        for asked in (spells, book_of, earned, turned):
            self.refused(errors.NoHouse, {"name": "z"}, asked, world(), DEEDS, "z", 30)


if __name__ == "__main__":
    unittest.main()
