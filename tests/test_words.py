"""Point 9: deeds as text, and of points 44 and 45 the lines by which deeds are told to a roof."""

import unittest

from oneroof.errors import BadText
from oneroof.words import deed_text, read_deed, read_number, read_telling, telling_text
from tests.deeds import MOST, RIGHT, WRONG, first_of, misshapen, one_sided, small_world, wrong_places

TEXTS = (
    (("rate", 5, "x", 1500), "rate 5 x 1500"),
    (("fund", 0, "a", "y", -MOST), "fund 0 a y -1000000000000"),
    (("gain", 29, "b", "x", -1), "gain 29 b x -1"),
    (("get", 10, "a", "corn", 12, "x", 0), "get 10 a corn 12 x 0"),
    (("sell", 4, "b", "@c", 1, "y", MOST), "sell 4 b @c 1 y 1000000000000"),
    (("hand", 3, "a", "b", "@c", 10, "x", 500), "hand 3 a b @c 10 x 500"),
    (("lend", 7, "a", "b", "x", 90), "lend 7 a b x 90"),
    (("fee", 20, "c", "b", "y", 1), "fee 20 c b y 1"),
    (("split", 6, "a", 5), "split 6 a 5"),
    (("pay", 8, "a", "x", 25), "pay 8 a x 25"),
)


class Writing(unittest.TestCase):
    def test_texts_of_all_kinds(self):
        self.assertEqual({deed[0] for deed, _ in TEXTS}, set(WRONG))
        for deed, text in TEXTS:
            with self.subTest(text=text):
                self.assertEqual(deed_text(deed), text)

    def test_deed_stays_as_it_was(self):
        deed = ("pay", 8, "a", "x", 25)
        deed_text(deed)
        self.assertEqual(deed, ("pay", 8, "a", "x", 25))


class Reading(unittest.TestCase):
    def refused(self, line):
        with self.subTest(line=line):
            with self.assertRaises(BadText) as caught:
                read_deed(small_world(), line)
            self.assertEqual(vars(caught.exception), {"line": 1})

    def test_texts_of_all_kinds(self):
        for deed, text in TEXTS:
            with self.subTest(text=text):
                told = read_deed(small_world(), text)
                self.assertEqual(told, deed)
                self.assertIsInstance(told, tuple)
                self.assertEqual([type(place) for place in told], [type(place) for place in deed])

    def test_what_is_written_reads_back(self):
        for deed in RIGHT:
            with self.subTest(deed=deed):
                self.assertEqual(read_deed(small_world(), deed_text(deed)), deed)

    def test_blanks_doubled_ahead_or_behind(self):
        for _, text in TEXTS:
            self.refused(" " + text)
            self.refused(text + " ")
            for at, sign in enumerate(text):
                if sign == " ":
                    self.refused(text[:at] + " " + text[at:])

    def test_other_signs_instead_of_a_blank_or_at_the_ends(self):
        for other in ("\t", "\n", "\r", ","):
            self.refused("split 6 a 5".replace(" ", other))
            for at in (5, 7, 9):
                self.refused("split 6 a 5"[:at] + other + "split 6 a 5"[at + 1:])
            self.refused("split 6 a 5" + other)
            self.refused(other + "split 6 a 5")

    def test_needless_signs_ahead_of_each_number(self):
        for _, text in TEXTS:
            words = text.split(" ")
            for at, word in enumerate(words):
                if word.isdigit():
                    for ahead in ("0", "00", "+", "--", "+-", "\t", "\n"):
                        self.refused(" ".join(words[:at] + [ahead + word] + words[at + 1:]))
                    for behind in (".", ".0", "e", "\t", "\n"):
                        self.refused(" ".join(words[:at] + [word + behind] + words[at + 1:]))

    def test_numbers_that_are_not_written_so(self):
        for word in ("-0", "00", "+0", "-01", "- 1", "-", "+", "1_0", "1,000", "0x5", "1e3", "1.0", "five", "x", ""):
            self.refused(f"get 4 a corn 12 x {word}")
            self.refused(f"fund 4 a x {word}")
            self.refused(f"split {word} a 5")
        self.refused("fund 4 a x -05")
        self.refused("get -0 a corn 12 x 30")

    def test_numbers_of_very_many_figures(self):
        for many in (14, 100, 4300, 4301, 20000):
            self.refused("get 4 a corn 12 x " + "9" * many)
            self.refused("fund 4 a x -" + "9" * many)

    def test_empty_line_and_lines_without_a_deed(self):
        for line in ("", " ", "\n", "give 3 a", "Split 6 a 5", "SPLIT 6 a 5", "tell split 6 a 5", "split", "6 a 5"):
            self.refused(line)

    def test_misshapen_deeds(self):
        for deed in misshapen():
            self.refused(deed_text(deed))

    def test_places_that_are_refused(self):
        for deed, _, _ in wrong_places():
            self.refused(deed_text(deed))

    def test_one_house_on_both_sides(self):
        for deed in one_sided():
            self.refused(deed_text(deed))

    def test_deeds_one_behind_the_other(self):
        for kind in WRONG:
            text = deed_text(first_of(kind))
            self.refused(text + "\n" + text)
            self.refused(text + " " + text)

    def test_world_stays_as_it_was(self):
        world = small_world()
        read_deed(world, "split 6 a 5")
        self.assertEqual(world.house_rows(), [("a", 100), ("b", 40), ("c", 1)])
        self.assertEqual(world.coin_rows(), [("x", 1000), ("y", 250)])


class Tellings(unittest.TestCase):
    TOLD = [("tell", TEXTS[0][0]), ("right", 12, TEXTS[1][0]), ("strike", 7)]
    LINES = ["tell rate 5 x 1500", "right 12 fund 0 a y -1000000000000", "strike 7"]

    def refused(self, asked, *more):
        with self.subTest(more=more):
            with self.assertRaises(BadText) as caught:
                asked(*more)
            self.assertEqual(vars(caught.exception), {"line": 1})

    def test_written_and_read(self):
        for told, line in zip(self.TOLD, self.LINES):
            self.assertEqual(telling_text(told), line)
            self.assertEqual(read_telling(small_world(), line), told)

    def test_lines_that_are_none_of_these(self):
        for line in ("", "tell", "tell ", "right 12", "right x split 6 a 5", "right 12  split 6 a 5", "strike", "strike 7 7", "undo",
                     "split 6 a 5", "tell split 30 a 5", "write 12 split 6 a 5"):
            self.refused(read_telling, small_world(), line)

    def test_numbers_of_nine_figures_and_of_ten(self):
        for number in (0, 7, -7, 999999999, -999999999):
            self.assertEqual(read_number(str(number)), number)
            self.assertEqual(read_telling(small_world(), f"strike {number}"), ("strike", number))
        for word in ("1000000000", "-1000000000", "", "-", "x", "07", "-0", "+7", " 7", "7 ", "9" * 5000):
            self.refused(read_number, word)
            self.refused(read_telling, small_world(), f"right {word} split 6 a 5")


if __name__ == "__main__":
    unittest.main()
