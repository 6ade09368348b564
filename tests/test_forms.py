"""Points 35 and 36: forms read, shown, and their worth in a book."""

import unittest

from oneroof.books import ROWS, book_of
from oneroof.errors import BadForm, NoRow
from oneroof.forms import form_worth, read_form, show_form
from oneroof.parts import Part, Purse
from oneroof.worlds import World
from tests.deeds import Dice


def purse(**amounts):
    return Purse([(coin, Part(amount)) for coin, amount in amounts.items()])


class Reading(unittest.TestCase):
    def reads(self, text, *terms):
        with self.subTest(text=text):
            found = read_form(text)
            self.assertEqual(found, list(terms))
            self.assertEqual([type(found)] + [type(row) for row in found], [list] + [tuple] * len(terms))

    def bad(self, *texts):
        for text in texts:
            with self.subTest(text=text):
                with self.assertRaises(BadForm) as caught:
                    read_form(text)
                self.assertEqual(vars(caught.exception), {})

    def no_row(self, text, *names):
        with self.subTest(text=text):
            with self.assertRaises(NoRow) as caught:
                read_form(text)
            self.assertEqual(set(vars(caught.exception)), {"name"})
            self.assertIn(caught.exception.name, names)

    def test_each_row_alone(self):
        for row in ROWS:
            self.reads(row, (row, 1))
            self.reads("-" + row, (row, -1))
            self.reads("7 * " + row, (row, 7))
            self.reads("(" + row + ")", (row, 1))

    def test_terms_with_signs_between_in_the_order_of_the_rows(self):
        self.reads("came + money", ("money", 1), ("came", 1))
        self.reads("came - money - 3 * gain + fees", ("money", -1), ("gain", -3), ("fees", 1), ("came", 1))
        self.reads(" + ".join(ROWS[::-1]), *[(row, 1) for row in ROWS])
        self.reads("-" + "-".join(ROWS), *[(row, -1) for row in ROWS])

    def test_same_row_several_times(self):
        self.reads("gain + 2 * gain - fund + gain", ("fund", -1), ("gain", 4))

    def test_terms_that_cancel(self):
        self.reads("gain - gain")
        self.reads("gain - fund - gain", ("fund", -1))
        self.reads("2 * (gain + fund) - 2 * fund", ("gain", 2))
        self.reads("0 * gain")
        self.reads("0 * (gain + fund) + 000000 * came")
        self.reads("999999 * gain - 999998 * gain", ("gain", 1))

    def test_numbers_of_one_to_six_figures(self):
        for number in ("1", "10", "999", "1234", "54321", "999999", "000001", "007", "01", "000", "012345"):
            terms = [("gain", int(number))] if int(number) else []
            self.reads(number + "*gain", *terms)
            self.reads("-" + number + " * (gain)", *[(row, -factor) for row, factor in terms])
        self.bad("1234567 * gain", "0000001 * gain", "0000000 * gain", "1000000 * (gain)", "2 * gain + 1000000 * gain",
                 "9" * 50 + " * gain")

    def test_brackets(self):
        self.reads("(gain + fund)", ("fund", 1), ("gain", 1))
        self.reads("came - (gain - fund)", ("fund", 1), ("gain", -1), ("came", 1))
        self.reads("3 * (gain - 2 * (fund - came) - owed)", ("owed", -3), ("fund", -6), ("gain", 3), ("came", 6))
        self.reads("((gain))", ("gain", 1))
        self.reads("(gain) - (gain)")
        self.reads("(gain)+(fund)", ("fund", 1), ("gain", 1))
        self.reads("2*(3*(4*(5*gain)))", ("gain", 120))

    def test_brackets_of_ten_and_of_eleven_within_one_another(self):
        for depth in range(1, 11):
            self.reads("(" * depth + "gain" + ")" * depth, ("gain", 1))
            self.reads("fund + " + "2 * (" * depth + "gain" + ")" * depth, ("fund", 1), ("gain", 2 ** depth))
        self.reads("+".join(["(" * 10 + "gain" + ")" * 10] * 4), ("gain", 4))
        self.reads("999999*(" * 10 + "gain" + ")" * 10, ("gain", 999999 ** 10))
        for depth in (11, 12, 40, 98):
            self.bad("(" * depth + "gain" + ")" * depth, "fund - " + "(" * depth + "gain" + ")" * depth)
        self.bad("(" * 10 + "gain + (fund)" + ")" * 10, "(" * 150, "(" * 200)

    def test_minus_ahead_of_the_first_term_of_the_form_and_of_a_bracket(self):
        self.reads("-gain", ("gain", -1))
        self.reads("- gain + fund", ("fund", 1), ("gain", -1))
        self.reads("-(gain - fund)", ("fund", 1), ("gain", -1))
        self.reads("-2 * gain", ("gain", -2))
        self.reads("(-gain + fund)", ("fund", 1), ("gain", -1))
        self.reads("-(-gain)", ("gain", 1))
        self.reads("came - 2 * ( - 3 * (-gain))", ("gain", -6), ("came", 1))
        self.reads("-((-(gain)))", ("gain", 1))

    def test_minus_and_plus_nowhere_else(self):
        self.bad("--gain", "gain - -fund", "gain + -fund", "gain + - fund", "2 * -gain", "2 * -(gain)", "-2 * -gain",
                 "gain - -(fund)", "gain + -(fund)", "(--gain)", "-(- -gain)", "+gain", "(+gain)", "+ gain", "-+gain", "+-gain", "gain ++ fund",
                 "gain -+ fund", "gain +", "gain -", "gain + + fund", "(gain -)", "-", "+", "gain-")

    def test_blanks_anywhere_but_within_a_name_or_a_number(self):
        tight = "-2*(gain-30*owed)+fees"
        self.reads(tight, ("owed", 60), ("gain", -2), ("fees", 1))
        self.reads("  -  2  *  (  gain  -  30  *  owed  )  +  fees  ", ("owed", 60), ("gain", -2), ("fees", 1))
        for at in range(len(tight) + 1):
            spaced = tight[:at] + "   " + tight[at:]
            within = 0 < at < len(tight) and tight[at - 1].isalnum() and tight[at].isalnum()
            if not within:
                self.reads(spaced, ("owed", 60), ("gain", -2), ("fees", 1))
            elif tight[at].isdigit():
                self.bad(spaced)
            else:
                with self.assertRaises((BadForm, NoRow)):
                    read_form(spaced)
        self.bad("money fund", "1 2 * gain", "gain gain")

    def test_just_200_signs_and_201(self):
        for filler in (" ", "0 * gain + "):
            text = "gain"
            while len(text) + len(filler) <= 200:
                text = filler + text
            text = " " * (200 - len(text)) + text
            self.assertEqual(len(text), 200)
            self.reads(text, ("gain", 1))
            self.bad(" " + text, text + " ", text + " " * 500)
        self.bad("gain + " * 28 + "owed ", "+".join(["gain"] * 41))
        self.reads("+".join(["gain"] * 40), ("gain", 40))

    def test_what_is_no_form(self):
        self.bad("", " ", "    ", "0", "7", "-3", "()", "( )", "(", ")", "(gain", "gain)", "((gain)", "(gain))", ")gain(", "(gain)(fund)",
                 "gain(fund)", "(gain)fund", "2 gain", "2gain", "gain2", "gain 2", "gain * 2", "gain*fund", "2 * 3 * gain", "2 * 3",
                 "2 ** gain", "2 *", "* gain", "2 * * gain", "2(gain)", "(gain) * 2", "(2) * gain", "2 * (3)", "2 + gain", "gain + 2",
                 "gain / fund", "gain, fund", "gain; fund", "gain = fund", "gain\n", "\tgain", "gain\t+ fund", "gain +\nfund", "2.0 * gain",
                 "2 * (gain", "[gain]", "{gain}", "gain_", "gain'", "1e3 * gain", "0x1 * gain", "1_0 * gain")

    def test_greater_letters_are_in_no_name(self):
        self.bad("Gain", "GAIN", "gaiN", "gain + Fund")

    def test_names_that_are_no_row(self):
        for name in ("a", "x", "moneys", "mone", "things", "moneygain", "z" * 200, "gains"):
            self.no_row(name, name)
        for name in ("a", "moneys", "things"):
            for text in (f"{name} + gain", f"gain - {name}", f"3 * {name}", f"0 * {name}", f"(gain - ({name}))", f"-{name}",
                         f"{name} - {name}", f"gain + 0 * ({name})"):
                self.no_row(text, name)
        self.no_row("foo + bar", "foo", "bar")

    def test_either_where_both_are_due(self):
        for text in ("foo +", "(foo", "gain + foo)", "1234567 * foo", "2 * -foo", "foo foo", "foo" + " " * 198, "((((((((((( foo )))))))))))"):
            with self.subTest(text=text):
                with self.assertRaises((BadForm, NoRow)):
                    read_form(text)

    def test_told_list_is_the_askers_own(self):
        read_form("gain").clear()
        self.reads("gain", ("gain", 1))


class Showing(unittest.TestCase):
    def test_as_one_text(self):
        for terms, text in (
            ([], "0"),
            ([("money", 1)], "money"),
            ([("money", -1)], "-money"),
            ([("money", 2)], "2 * money"),
            ([("money", -2)], "-2 * money"),
            ([("money", -2), ("came", 1)], "-2 * money + came"),
            ([("money", 1), ("gain", -1), ("came", -1)], "money - gain - came"),
            ([("owed", -1), ("goods", -17), ("held", 3), ("fund", 1)], "-owed - 17 * goods + 3 * held + fund"),
            ([("gain", 999999), ("sales", -1000000)], "999999 * gain - 1000000 * sales"),
            ([(row, 1) for row in ROWS], " + ".join(ROWS)),
        ):
            with self.subTest(text=text):
                before = list(terms)
                self.assertEqual(show_form(terms), text)
                self.assertEqual(terms, before)

    def test_what_is_shown_reads_back(self):
        dice = Dice(5)
        for _ in range(300):
            terms = []
            for row in ROWS:
                factor = dice.one_of((0, 1, -1, 2, -7, 999999, -999999, dice.among(-5000, 5000)))
                if factor and dice.throw(2):
                    terms.append((row, factor))
            text = show_form(terms)
            if terms and len(text) <= 200:
                self.assertEqual(read_form(text), terms)

    def test_nothing_shows_as_no_form(self):
        self.assertEqual(show_form(read_form("gain - gain")), "0")
        with self.assertRaises(BadForm):
            read_form("0")


class Worth(unittest.TestCase):
    ROWS = [(row, purse(x=at, y=-2 ** at)) for at, row in enumerate(ROWS, 1)]

    def test_purse_of_the_sum(self):
        self.assertEqual(form_worth([], self.ROWS), Purse())
        for row, found in self.ROWS:
            self.assertEqual(form_worth([(row, 1)], self.ROWS), found)
            self.assertEqual(form_worth([(row, -3)], self.ROWS), found.times(Part(-3)))
        self.assertEqual(form_worth([("money", 2), ("owed", -1)], self.ROWS), Purse())
        self.assertEqual(form_worth([("money", 2), ("came", -5)], self.ROWS), purse(x=2 - 55, y=-4 + 5 * 2048))

    def test_in_a_book(self):
        world = World([("x", 1000)], [("a", 10), ("b", 10)])
        deeds = [(1, ("fund", 0, "a", "x", 50)), (2, ("get", 0, "a", "corn", 3, "x", 10)), (3, ("sell", 0, "a", "corn", 1, "x", 9))]
        rows = book_of(world, deeds, "a", 0).rows()
        self.assertEqual(form_worth(read_form("3 * (goods - sales) + 2 * money"), rows), Purse([("x", Part(20 - 27 + 10 + 98))]))
        self.assertEqual(form_worth(read_form("money + owed + goods + held - fund - sales"), rows), Purse())

    def test_what_is_handed_in_stays(self):
        terms, rows = [("money", 2), ("came", -5)], list(self.ROWS)
        form_worth(terms, rows)
        self.assertEqual((terms, rows), ([("money", 2), ("came", -5)], self.ROWS))


class ThrownForms(unittest.TestCase):
    def thrown(self, dice, depth):
        """A form's text, and its factors told straight from what was thrown."""
        text, factors = "", dict.fromkeys(ROWS, 0)
        for at in range(dice.among(1, 3)):
            sign = dice.one_of(("-", "+"))
            text += sign if at > 0 or sign == "-" else ""
            times = -1 if sign == "-" else 1
            if dice.throw(2):
                number = dice.among(0, 30)
                text += dice.one_of((f"{number}*", f" {number:04d} * "))
                times *= number
            if depth < 3 and dice.throw(3) == 0:
                inner, found = self.thrown(dice, depth + 1)
                text += f"({inner})"
            else:
                row = dice.one_of(ROWS)
                text, found = text + row + " " * dice.throw(3), {row: 1}
            for row, factor in found.items():
                factors[row] += times * factor
        return text, factors

    def test_read_as_they_were_thrown(self):
        dice, met = Dice(9), 0
        for _ in range(500):
            text, factors = self.thrown(dice, 0)
            if len(text) <= 200:
                met += "(" in text
                with self.subTest(text=text):
                    self.assertEqual(read_form(text), [(row, factors[row]) for row in ROWS if factors[row]])
        self.assertGreater(met, 100)


if __name__ == "__main__":
    unittest.main()
