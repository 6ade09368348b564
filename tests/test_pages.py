"""Point 44: pages written and read."""

import unittest

from oneroof.errors import BadText, Nothing, Ring, Short
from oneroof.pages import read_page, write_page
from oneroof.roofs import Roof
from oneroof.words import deed_text
from oneroof.worlds import World
from tests.deeds import RIGHT, misshapen, one_sided, small_world, thrown_world, walkable_rows, wrong_places

PAGE = """coin x 1000
coin y 250
house b 20
house a 10
house d 40
tell fund 0 a x 500
tell get 1 a corn 10 x 40
tell hand 2 a b corn 4 y 30
right 1 fund 0 a x -7
tell sell 3 b corn 4 x 9
strike 1
right 4 sell 3 b corn 3 x 9
"""
LINES = PAGE.split("\n")[:-1]


def world():
    return World([("x", 1000), ("y", 250)], [("b", 20), ("a", 10), ("d", 40)])


def story():
    roof = Roof(world())
    roof.tell(("fund", 0, "a", "x", 500))
    roof.tell(("get", 1, "a", "corn", 10, "x", 40))
    roof.tell(("hand", 2, "a", "b", "corn", 4, "y", 30))
    roof.right(1, ("fund", 0, "a", "x", -7))
    roof.tell(("sell", 3, "b", "corn", 4, "x", 9))
    roof.strike(1)
    roof.right(4, ("sell", 3, "b", "corn", 3, "x", 9))
    return roof


def paged(lines):
    return "".join(line + "\n" for line in lines)


class Writing(unittest.TestCase):
    def test_world_and_kept_tellings(self):
        self.assertEqual(write_page(story()), PAGE)
        self.assertEqual(write_page(Roof(world())), paged(LINES[:5]))
        self.assertEqual(write_page(Roof(World([("a", 1)], [("a", 1000000)]))), "coin a 1\nhouse a 1000000\n")

    def test_what_was_taken_back_and_given_out_is_left_out(self):
        roof = story()
        roof.give("a", 3)
        for many in range(12, 4, -1):
            self.assertEqual(write_page(roof), paged(LINES[:many]))
            if many > 5:
                roof.undo()

    def test_roof_stays(self):
        roof = story()
        write_page(roof)
        self.assertEqual(roof, story())


class Reading(unittest.TestCase):
    def test_what_is_written_reads_back(self):
        for many in range(4, 13):
            roof = read_page(paged(LINES[:many]))
            self.assertIsInstance(roof, Roof)
            self.assertEqual(write_page(roof), paged(LINES[:many]))
        roof = read_page(PAGE)
        self.assertEqual(roof, story())
        self.assertEqual((roof.tellings(), roof.stands()), (story().tellings(), story().stands()))
        self.assertEqual(roof.world.coin_rows(), [("x", 1000), ("y", 250)])
        self.assertEqual(roof.world.house_rows(), [("b", 20), ("a", 10), ("d", 40)])
        self.assertEqual(roof.tell(("fund", 0, "a", "x", 1)), 5)

    def test_nothing_given_out_and_nothing_to_redo(self):
        roof = story()
        roof.give("b", 3)
        roof.undo()
        read = read_page(write_page(roof))
        self.assertEqual(read.given(), [])
        with self.assertRaises(Nothing):
            read.redo()
        self.assertNotEqual(read, roof)
        read.undo()
        self.assertEqual(read.tellings(), story().tellings()[:5])

    def test_most_coins_houses_and_tellings(self):
        coins = [f"coin {name} 1000000000" for name in "vwxyz"]
        houses = [f"house {name * 6} 1" for name in "abcdefgh"]
        tellings = ["tell gain 29 aaaaaa v -1000000000000"] * 30 + [f"strike {number}" for number in range(1, 31)]
        text = paged(coins + houses + tellings)
        self.assertEqual(write_page(read_page(text)), text)
        self.assertEqual((len(read_page(text)), repr(read_page(text))), (0, "Roof(8 houses, 60 tellings)"))

    def test_right_deeds_of_all_kinds(self):
        for deed in RIGHT:
            roof = Roof(small_world())
            try:
                roof.tell(deed)
            except (Short, Ring):
                continue
            self.assertEqual(read_page(write_page(roof)), roof)

    def test_thrown_roofs(self):
        for seed in range(10):
            roof = Roof(thrown_world())
            for _, deed in sorted(walkable_rows(seed)):
                try:
                    roof.tell(deed)
                except (Short, Ring):
                    pass
            for number, deed in roof.stands()[::7]:
                try:
                    roof.right(number, ("fund",) + (deed[1],) + ("a", "x", number))
                    roof.strike(number)
                except (Short, Ring):
                    pass
            self.assertGreater(len(roof.tellings()), 10)
            self.assertEqual(read_page(write_page(roof)), roof)


class WrongPages(unittest.TestCase):
    def refused(self, text, *lines):
        """Refused, with one of these lines, or with any from 1 on."""
        with self.subTest(text=text):
            with self.assertRaises(BadText) as caught:
                read_page(text)
            self.assertIs(type(caught.exception), BadText)
            self.assertEqual(set(vars(caught.exception)), {"line"})
            self.assertGreaterEqual(caught.exception.line, 1)
            if lines:
                self.assertIn(caught.exception.line, lines)

    def wrong_line(self, number, line, lines=None):
        """The line is wrong as that line of the page, whatever stands behind it."""
        ahead = (LINES if lines is None else lines)[:number - 1]
        behind = (LINES if lines is None else lines)[number:]
        self.refused(paged(ahead + [line] + behind), number)
        self.refused(paged(ahead + [line]), number)
        self.refused(paged(ahead + [line, "", "rubbish"] + behind), number)
        self.refused(paged(ahead + [line, line]), number)

    def test_lines_of_coins(self):
        for line in ("coin", "coin ", "coin y", "coin y ", "coin y 0", "coin y -1", "coin y 1000000001", "coin y 0250", "coin y +1", "coin y x",
                     "coin Y 1", "coin  1", "coin y1 1", "coin abcdefg 1", "coin y 1 ", " coin y 1", "coin  y 1", "coin y  1", "coin y 1 1",
                     "coin\ty 1", "coin y 1\r", "Coin y 1", "coins y 1", "coiny 1", "coin x 7", "coin y 1.0", "coin y " + "9" * 5000, "coin @y 1"):
            self.wrong_line(2, line)
        self.wrong_line(1, "coin X 1")
        self.wrong_line(1, "coin x 0")
        self.wrong_line(1, "")

    def test_lines_of_houses(self):
        for line in ("house", "house ", "house a", "house a ", "house a 0", "house a -1", "house a 1000001", "house a 010", "house a +1",
                     "house a x", "house A 1", "house  1", "house a1 1", "house abcdefg 1", "house a 1 ", " house a 1", "house  a 1",
                     "house a  1", "house a 1 1", "house b 7", "House a 1", "houses a 1", "housea 1", "house @a 1", "house a 1\t"):
            self.wrong_line(4, line)
        self.wrong_line(3, "house A 1")
        self.wrong_line(3, "house b 1000001")

    def test_too_many_coins_houses_and_tellings(self):
        coins, houses = [f"coin {name} 1" for name in "stuvwx"], [f"house {name} 1" for name in "abcdefghi"]
        self.refused(paged(coins + houses), 6)
        self.refused(paged(coins[:5] + houses), 14)
        self.refused(paged(coins), 6)
        lines = coins[:5] + houses[:8] + ["tell fund 0 a s 1"] * 60
        self.assertEqual(len(read_page(paged(lines))), 60)
        for more in ("tell fund 0 a s 1", "strike 1", "right 1 fund 0 a s 1"):
            self.refused(paged(lines + [more]), 74)
            self.refused(paged(lines + [more, more]), 74)

    def test_lines_in_an_order_that_no_page_has(self):
        coin, house, tell = LINES[0], LINES[2], "tell fund 0 b x 1"
        self.refused(paged([house, coin, tell]), 1)
        self.refused(paged([tell, coin, house]), 1)
        self.refused(paged([coin, tell, house]), 2)
        self.refused(paged([coin, house, "coin y 1", tell]), 3)
        self.refused(paged([coin, house, tell, "house a 1"]), 4)
        self.refused(paged([coin, house, tell, "coin y 1"]), 4)
        self.refused(paged([house]), 1)
        self.refused(paged([coin, "strike 1"]), 2)
        for at in range(4, 13):
            self.wrong_line(at, "coin z 5")
        for at in range(7, 13):
            self.wrong_line(at, "house c 5")

    def test_the_first_one_of_several_wrong_lines(self):
        for number in range(1, 12):
            lines = LINES[:number - 1] + ["rubbish"] * (13 - number)
            self.refused(paged(lines), number)
        self.refused(paged([LINES[0], "coin x 1", "house"] + LINES[3:]), 2)
        self.refused(paged(LINES[:2] + ["house b 0", "house"] + LINES[4:]), 3)

    def test_words_that_are_no_telling(self):
        for number in range(6, 13):
            for line in ("", " ", "tell", "tell ", "right", "right ", "right 1", "right 1 ", "strike", "strike ", "undo", "redo", "fund 0 a x 5",
                         "Tell fund 0 a x 5", "tells fund 0 a x 5", "tell  fund 0 a x 5", " tell fund 0 a x 5", "tell fund 0 a x 5 ",
                         "tell\tfund 0 a x 5", "tell 5 fund 0 a x 5", "right fund 0 a x 5", "strike 1 1", "strike 1 fund 0 a x 5", "strike x",
                         "things a 3", "house b 5", "coin z 5", "tell fund 0 a x 5\r"):
                self.wrong_line(number, line)

    def test_deeds_that_are_not_right(self):
        head = write_page(Roof(small_world())) + "tell fund 3 a x 500\n"
        for deed in [deed for deed, _, _ in wrong_places()] + misshapen() + one_sided():
            if "\n" not in deed_text(deed):
                self.refused(head + f"tell {deed_text(deed)}\n", 7)
                self.refused(head + f"right 1 {deed_text(deed)}\ntell\n", 7)

    def test_numbers(self):
        for word in ("4", "0", "-1", "2", "999999999", "1000000000", "9" * 5000, "01", "+1", "1 ", " 1", "x", "-0", "1.0", ""):
            # 2 does not stand any more once it is struck.
            lines = LINES[:5] + ["tell fund 0 a x 500", "tell fund 0 a x 600", "tell fund 0 a x 700", "strike 2"]
            self.wrong_line(10, f"strike {word}", lines)
            self.wrong_line(10, f"right {word} fund 0 a x 1", lines)

    def test_noughts_and_blanks_ahead_and_behind(self):
        for at, line in enumerate(LINES, 1):
            for wrong in (" " + line, line + " ", line.replace(" ", "  ", 1), line + "\t"):
                self.wrong_line(at, wrong)
            words = line.split(" ")
            for place, word in enumerate(words):
                if word.isdigit():
                    self.wrong_line(at, " ".join(words[:place] + ["0" + word] + words[place + 1:]))
        self.wrong_line(9, "right 1 fund 0 a x -07")

    def test_tellings_that_the_walk_refuses(self):
        self.wrong_line(8, "tell hand 2 a b corn 11 y 30")
        self.wrong_line(8, "tell sell 0 a corn 1 y 30")
        self.wrong_line(7, "tell get 1 a @a 1 x 40")
        self.wrong_line(9, "strike 2")
        self.wrong_line(9, "right 2 get 1 a corn 3 x 40")
        self.wrong_line(9, "right 2 get 3 a corn 10 x 40")
        self.wrong_line(11, "right 3 hand 2 a b corn 3 y 30")
        # As told later on it would have held, but not where it stands.
        self.refused(paged(LINES[:6] + [LINES[7], LINES[6]]), 7)

    def test_no_coin_no_house_and_no_line_feed(self):
        for text in ("", "\n", "coin x 1\n", "coin x 1\ncoin y 1\n", "house a 1\n", "x", "coin x 1\nhouse a 1", PAGE[:-1], PAGE + "strike 2",
                     PAGE + " ", "tell fund 0 a x 1\n"):
            self.refused(text)

    def test_line_feeds_too_many(self):
        self.refused(PAGE + "\n", 13)
        self.refused("\n" + PAGE, 1)
        self.refused(PAGE.replace("\nhouse b", "\n\nhouse b"), 3)
        self.refused(PAGE.replace("\n", "\r\n"), 1)


if __name__ == "__main__":
    unittest.main()
