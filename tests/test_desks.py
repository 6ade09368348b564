"""Point 45: desks."""

import unittest

from oneroof.books import ROWS
from oneroof.desks import Desk
from oneroof.forms import form_worth, read_form
from oneroof.owners import ruled
from oneroof.pages import read_page, write_page
from oneroof.roofs import Roof
from oneroof.stakes import parts_of
from oneroof.states import play
from oneroof.steps import spells
from oneroof.words import deed_text
from oneroof.worlds import World
from tests.deeds import RIGHT, misshapen, one_sided, small_world, thrown_world, walkable_rows, wrong_places

STORY = ("tell fund 0 a x 500", "tell get 1 a @b 15 x 90", "tell get 1 b corn 3 y 10", "tell hand 2 b a corn 1 x 5",
         "tell get 2 b @c 16 y 8", "tell gain 2 c x 60", "tell sell 3 a corn 1 x 9")


def world():
    return World([("x", 1000), ("y", 250)], [("b", 20), ("a", 10), ("d", 40), ("c", 30)])


def desk_after(*lines):
    desk = Desk(Roof(world()))
    for line in lines:
        desk.ask(line)
    return desk


class Asking(unittest.TestCase):
    def answers(self, desk, *pairs):
        for line, answer in pairs:
            with self.subTest(line=line):
                found = desk.ask(line)
                self.assertEqual(found, answer)
                self.assertIsInstance(found, str)

    def refused(self, desk, name, *lines):
        """Refused, and the roof stays as it was."""
        before, again = write_page(desk.roof), desk.roof.twin()
        self.answers(desk, *[(line, "refused " + name) for line in lines])
        self.assertEqual((write_page(desk.roof), desk.roof), (before, again))


class Tellings(Asking):
    def test_each_kind_of_line(self):
        desk = Desk(Roof(world()))
        self.answers(desk, *[(line, str(number)) for number, line in enumerate(STORY, 1)])
        self.answers(
            desk, ("right 1 fund 0 a x 700", "done"), ("strike 7", "done"), ("undo", "done"), ("undo", "done"), ("redo", "done"),
            ("tell fund 9 d y -1000000000000", "8"),
        )
        self.assertEqual(desk.roof.stands()[0], (1, ("fund", 0, "a", "x", 700)))
        self.assertEqual(write_page(desk.roof).split("\n")[6:-1], list(STORY) + ["right 1 fund 0 a x 700", "tell fund 9 d y -1000000000000"])

    def test_the_lines_of_a_page(self):
        desk = desk_after(*STORY, "strike 7", "right 1 fund 0 a x 700")
        again = Desk(Roof(world()))
        for line in write_page(desk.roof).split("\n")[6:-1]:
            again.ask(line)
        self.assertEqual(again.roof, desk.roof)
        self.assertEqual(read_page(write_page(desk.roof)), desk.roof)

    def test_right_deeds_of_all_kinds_in_text(self):
        for deed in RIGHT:
            desk = Desk(Roof(small_world()))
            self.assertIn(desk.ask("tell " + deed_text(deed)), ("1", "refused Short", "refused Ring"))
            desk = Desk(Roof(small_world()))
            desk.ask("tell fund 0 a x 5")
            self.assertIn(desk.ask("right 1 " + deed_text(deed)), ("done", "refused Short", "refused Ring"))

    def test_refused_by_the_roof(self):
        desk = desk_after(*STORY)
        self.refused(desk, "Short", "tell sell 1 b corn 4 x 1", "strike 3", "right 3 get 3 b corn 3 y 10", "tell sell 0 a rye 1 x 1",
                     "right 1 sell 0 a corn 1 x 1")
        self.refused(desk, "Ring", "tell get 4 c @a 1 x 1", "tell get 0 a @a 1 x 1", "right 1 get 4 b @a 1 x 1")
        self.refused(desk, "NoTelling", "strike 8", "strike 0", "strike -1", "right 8 fund 0 a x 1", "right 0 fund 0 a x 1",
                     "right -5 fund 0 a x 1", "strike 999999999", "right -999999999 fund 0 a x 1")
        desk.ask("strike 7")
        self.refused(desk, "NoTelling", "strike 7", "right 7 fund 0 a x 1")
        self.refused(desk, "Nothing", "redo")
        self.refused(Desk(Roof(world())), "Nothing", "undo", "redo")

    def test_full(self):
        desk = desk_after(*STORY, *["tell fund 5 a x 1"] * 53)
        self.assertEqual(len(desk.roof), 60)
        self.refused(desk, "Full", "tell fund 5 a x 1", "right 1 fund 5 a x 1", "strike 7", "tell sell 0 a corn 1 x 1")
        self.refused(desk, "NoTelling", "strike 61")
        self.answers(desk, ("undo", "done"), ("tell fund 5 a x 2", "60"))

    def test_deeds_that_cannot_be_read(self):
        desk = Desk(Roof(small_world()))
        desk.ask("tell fund 3 a x 500")
        for deed in [deed for deed, _, _ in wrong_places()] + misshapen() + one_sided():
            # Whether the number stands is not looked at: the line is none of these.
            self.refused(desk, "BadText", "tell " + deed_text(deed), "right 1 " + deed_text(deed), "right 9 " + deed_text(deed))

    def test_numbers_of_nine_and_of_ten_figures_in_a_deed(self):
        desk = Desk(Roof(world()))
        self.answers(desk, ("tell rate 3 x 1000000000", "1"), ("tell fund 3 a x -1000000000000", "2"),
                     ("right 1 fund 3 a y 999999999999", "done"))
        self.refused(desk, "BadText", "tell rate 3 x 1000000001", "tell rate 3 x 01000", "tell rate 03 x 1000", "tell fund 3 a x +5")


class Questions(Asking):
    def test_things(self):
        desk = desk_after(*STORY)
        self.answers(desk, ("things a 0", "500 x"), ("things a 2", "470 x, -8 y"), ("things b 1", "nought"), ("things d 29", "nought"),
                     ("things c 2", "60 x"), ("things b 2", "65 x, -34/3 y"))

    def test_rows(self):
        desk = desk_after(*STORY)
        self.answers(desk, ("row money a 0", "500 x"), ("row gain a 2", "60 x"), ("row fund a 2", "nought"), ("row goods a 1", "10 y"), ("row goods b 2", "20/3 y"))
        for head in "abcd":
            for day in (0, 1, 2, 3, 29):
                book = desk.roof.book(head, day)
                self.answers(desk, (f"things {head} {day}", repr(book.things())))
                self.answers(desk, *[(f"row {row} {head} {day}", repr(book.row(row))) for row in ROWS])

    def test_forms_with_their_blanks(self):
        desk = desk_after(*STORY)
        book = desk.roof.book("a", 2)
        for form in ("money", "-2 * money + came", "money+owed", "  money  -  ( goods + 3*held ) ", "gain - gain", "0 * money", " money",
                     "money ", "(" * 10 + "came" + ")" * 10, " " * 195 + "money"):
            self.answers(desk, (f"form a 2 {form}", repr(form_worth(read_form(form), book.rows()))))
        self.answers(desk, ("form a 0 money", "500 x"), ("form a 0 2*money - fund", "500 x"), ("form a 0 money - fund", "nought"))

    def test_rules(self):
        desk = desk_after(*STORY)
        self.answers(desk, ("rules a 0", "a"), ("rules a 1", "a b"), ("rules a 29", "a b c"), ("rules b 2", "b c"), ("rules d 2", "d"))
        desk = desk_after("tell get 0 d @c 16 x 1", "tell get 0 c @b 11 x 1", "tell get 0 c @a 6 x 1")
        # In the order in which they come, not by name.
        self.answers(desk, ("rules d 0", "d c a b"))

    def test_parts(self):
        desk = desk_after(*STORY)
        self.answers(desk, ("parts a 0", "a 500 x"), ("parts d 7", "d nought"), ("parts a 1", "a 410 x; b nought"))
        state = play(world(), desk.roof.stands(), 2)
        parts = parts_of(state, spells(world(), desk.roof.stands(), "a", 2), "a")
        self.assertEqual([house for house, _ in parts], ["a", "b", "c"])
        self.answers(desk, ("parts a 2", f"a {parts[0][1]}; b {parts[1][1]}; c {parts[2][1]}"))
        self.answers(desk, ("parts c 2", "c 60 x"))

    def test_refused_houses_and_days(self):
        desk = desk_after(*STORY)
        for kind, more in (("things", ""), ("rules", ""), ("parts", ""), ("form", " money")):
            self.refused(desk, "NoHouse", f"{kind} e 3{more}", f"{kind} e 30{more}", f"{kind} A -1{more}", f"{kind} @a 3{more}", f"{kind} 3 3{more}")
            self.refused(desk, "BadDay", f"{kind} a 30{more}", f"{kind} a -1{more}", f"{kind} a 999999999{more}", f"{kind} a -999999999{more}")
        self.refused(desk, "NoHouse", "row money e 3", "row money e 30")
        self.refused(desk, "BadDay", "row money a 30", "row money a -1", "row money a 123456789")

    def test_days_that_are_not_written_so(self):
        desk = desk_after(*STORY)
        for day in ("1000000000", "-1000000000", "9999999999", "0000000003", "03", "00", "-0", "+3", "3.0", "x", "", "3x", "3\n", "\t3", "1_0", "-",
                    "9" * 5000):
            self.refused(desk, "BadText", f"things a {day}", f"rules a {day}", f"parts a {day}", f"row money a {day}", f"form a {day} money",
                         f"things e {day}", f"row no a {day}", f"form a {day} no")

    def test_numbers_that_are_not_written_so(self):
        desk = desk_after(*STORY)
        for number in ("1000000000", "-1000000000", "0000000007", "07", "00", "-0", "+7", "7.0", "x", "", "7\n", "-", "9" * 5000):
            self.refused(desk, "BadText", f"strike {number}", f"right {number} fund 0 a x 1")

    def test_the_row_and_the_form_first(self):
        desk = desk_after(*STORY)
        self.refused(desk, "NoRow", "row no e 30", "row Money a 3", "row a a 3", "form e 30 no", "form a 3 money + no", "form a 30 no")
        self.refused(desk, "BadForm", "form e 30 0", "form a 3 (money", "form a 30 money money", "form a 3 ", "form a 3  ", "form e 3 " + " " * 196 + "money",
                     "form a 3 " + "(" * 11 + "came" + ")" * 11, "form a 3 --money", "form a 3 money\n")

    def test_lines_that_are_none_of_these(self):
        desk = desk_after(*STORY)
        self.refused(
            desk, "BadText", "", " ", "\n", "hello", "Undo", "undo ", " undo", "undo 1", "undo\n", "redo ", "redo redo", "UNDO", "tell", "tell ", "right",
            "right 1", "right 1 ", "strike", "strike ", "strike 1 ", "strike  1", "strike 1 2", " strike 1", "things", "things a", "things a ", "things  a 3",
            "things a  3", " things a 3", "things a 3 ", "things a 3 3", "thing a 3", "things\ta 3", "things  3", "row", "row money", "row money a",
            "row a 3", "row money a 3 ", "row money a 3 3", "row  money a 3", "row  a 3", "row money  3", "row money + came a 3", "rows money a 3",
            "form", "form a", "form a 3", "form  a 3 money", "form a  3 money", "form money", "form  3 money", "form money a 3", "rules", "rules a",
            "rules a 3 ", "rules a 3 3", "rules 3", "parts", "parts a", "parts a 3 ", "parts  3", "parts a b", "fund 0 a x 1", "coin z 5", "house z 5",
            "tell  fund 0 a x 1", "tell fund 0 a x 1 ", "tell fund 0 a x 1\n", "right  1 fund 0 a x 1", "right 1  fund 0 a x 1", "undo undo",
            "tell_all fund 0 a x 1", "things a 3\nthings a 3", "book a 3", "what_if a 3", "give a 3", "__init__", "repr",
        )

    def test_questions_change_nothing(self):
        desk = desk_after(*STORY)
        desk.ask("undo")
        before = desk.roof.twin()
        for line in ("things a 3", "row money a 3", "form a 3 money", "rules a 3", "parts a 3", "things e 3", "nothing", "strike 99"):
            desk.ask(line)
        self.assertEqual(desk.roof, before)
        self.answers(desk, ("redo", "done"), ("redo", "refused Nothing"))


class Roofs(Asking):
    def test_the_very_roof(self):
        roof = Roof(world())
        self.assertIs(Desk(roof).roof, roof)
        self.assertEqual(len(roof), 0)

    def test_two_desks_of_one_roof_and_one_told_by_hand_between(self):
        roof = Roof(world())
        one, other = Desk(roof), Desk(roof)
        self.answers(one, ("tell fund 0 a x 5", "1"))
        self.answers(other, ("things a 3", "5 x"), ("tell fund 0 a x 2", "2"))
        self.assertEqual(roof.tell(("fund", 0, "a", "x", 1)), 3)
        self.answers(one, ("things a 3", "8 x"), ("undo", "done"))
        self.answers(other, ("things a 3", "7 x"), ("redo", "done"), ("strike 1", "done"))
        roof.right(2, ("fund", 0, "a", "y", 2))
        self.answers(one, ("things a 3", "1 x, 2 y"), ("strike 1", "refused NoTelling"))
        roof.undo()
        self.answers(other, ("things a 3", "3 x"), ("redo", "done"), ("redo", "refused Nothing"))
        self.assertEqual(roof.stands(), [(2, ("fund", 0, "a", "y", 2)), (3, ("fund", 0, "a", "x", 1))])
        self.answers(Desk(roof.twin()), ("undo", "done"))
        self.assertEqual(len(roof.tellings()), 5)


class ThrownDesks(Asking):
    def test_questions_as_the_roof_and_the_functions_tell(self):
        for seed in range(8):
            desk = Desk(Roof(thrown_world()))
            for _, deed in sorted(walkable_rows(seed)):
                desk.ask("tell " + deed_text(deed))
            rows = desk.roof.stands()
            self.assertGreater(len(rows), 5)
            for head in "abcd":
                for day in (0, 2, 4):
                    state, since = play(thrown_world(), rows, day), spells(thrown_world(), rows, head, day)
                    parts = "; ".join(f"{house} {part}" for house, part in parts_of(state, since, head))
                    book = desk.roof.book(head, day)
                    self.answers(desk, (f"rules {head} {day}", " ".join(house for house, _ in ruled(state, head))), (f"parts {head} {day}", parts),
                                 (f"things {head} {day}", str(book.things())), (f"row came {head} {day}", str(book.row("came"))),
                                 (f"form {head} {day} money + owed + goods + held", str(book.things())))


if __name__ == "__main__":
    unittest.main()
