"""Points 1 to 4: parts and purses."""

import unittest
from fractions import Fraction

from oneroof.errors import NoMeasure
from oneroof.parts import Part, Purse

NUMBERS = (-9, -6, -4, -3, -2, -1, 0, 1, 2, 3, 4, 6, 9)
LARGE = 10 ** 40 + 1


def part_of(fraction):
    return Part(fraction.numerator, fraction.denominator)


def some_fractions():
    return [Fraction(top, low) for top in (-7, -2, 0, 3, 8) for low in (1, 2, 6)]


class AlwaysEqual:
    def __eq__(self, other):
        return True


class PartFields(unittest.TestCase):
    def test_lowest_terms_with_low_from_one_on(self):
        for top in NUMBERS:
            for low in NUMBERS:
                if low == 0:
                    continue
                with self.subTest(top=top, low=low):
                    wanted = Fraction(top, low)
                    part = Part(top, low)
                    self.assertEqual((part.top, part.low), (wanted.numerator, wanted.denominator))

    def test_some_told_one_by_one(self):
        for top, low, wanted in (
            (6, 8, (3, 4)),
            (-6, 8, (-3, 4)),
            (6, -8, (-3, 4)),
            (-6, -8, (3, 4)),
            (0, 5, (0, 1)),
            (0, -5, (0, 1)),
            (12, 4, (3, 1)),
        ):
            with self.subTest(top=top, low=low):
                self.assertEqual((Part(top, low).top, Part(top, low).low), wanted)

    def test_low_left_out_is_one(self):
        self.assertEqual((Part(7).top, Part(7).low), (7, 1))
        self.assertEqual((Part(0).top, Part(0).low), (0, 1))

    def test_arguments_by_name(self):
        self.assertEqual(Part(top=2, low=6), Part(1, 3))

    def test_large_numbers_stay_exact(self):
        part = Part(LARGE * 3, LARGE * 6)
        self.assertEqual((part.top, part.low), (1, 2))
        self.assertEqual((Part(LARGE, 3).top, Part(LARGE, 3).low), (LARGE, 3))

    def test_low_of_nought_is_refused(self):
        for top in (-2, 0, 1, LARGE):
            with self.subTest(top=top):
                with self.assertRaises(NoMeasure):
                    Part(top, 0)


class PartSigns(unittest.TestCase):
    def test_sign(self):
        for top, low, wanted in ((3, 4, 1), (-3, 4, -1), (3, -4, -1), (-3, -4, 1), (0, 4, 0), (0, -4, 0)):
            with self.subTest(top=top, low=low):
                self.assertEqual(Part(top, low).sign(), wanted)
        self.assertEqual(Part(LARGE).sign(), 1)
        self.assertEqual(Part(-LARGE).sign(), -1)

    def test_repr(self):
        for part, wanted in (
            (Part(3), "3"),
            (Part(-4), "-4"),
            (Part(0), "0"),
            (Part(0, -9), "0"),
            (Part(-3, 4), "-3/4"),
            (Part(3, -4), "-3/4"),
            (Part(1, 2), "1/2"),
            (Part(10, 4), "5/2"),
            (Part(8, 4), "2"),
            (Part(1, 10), "1/10"),
        ):
            with self.subTest(wanted=wanted):
                self.assertEqual(repr(part), wanted)
                self.assertEqual(str(part), wanted)


class PartEquality(unittest.TestCase):
    def test_same_fraction_written_otherwise(self):
        self.assertTrue(Part(1, 2) == Part(2, 4))
        self.assertTrue(Part(1, 2) == Part(-50, -100))
        self.assertTrue(Part(0, 3) == Part(0, -7))
        self.assertFalse(Part(1, 2) != Part(2, 4))

    def test_other_fractions(self):
        for other in (Part(1, 3), Part(3, 2), Part(-1, 2), Part(2), Part(0), Part(1)):
            with self.subTest(other=other):
                self.assertFalse(Part(1, 2) == other)
                self.assertTrue(Part(1, 2) != other)

    def test_equal_to_nothing_else(self):
        for other in (1, True, "1", (1, 1), [1, 1], None, Fraction(1), Purse(), {"top": 1, "low": 1}, AlwaysEqual()):
            with self.subTest(other=other):
                self.assertFalse(Part(1) == other)
                self.assertTrue(Part(1) != other)


class PartReckoning(unittest.TestCase):
    def reckoned(self, one, other):
        left, right = part_of(one), part_of(other)
        told = [left.plus(right), left.minus(right), left.times(right)]
        wanted = [one + other, one - other, one * other]
        if other != 0:
            told.append(left.over(right))
            wanted.append(one / other)
        # Reckoning leaves what is reckoned with as it was.
        self.assertEqual((left.top, left.low), (one.numerator, one.denominator))
        self.assertEqual((right.top, right.low), (other.numerator, other.denominator))
        return told, wanted

    def test_against_fractions(self):
        for one in some_fractions():
            for other in some_fractions():
                with self.subTest(one=one, other=other):
                    told, wanted = self.reckoned(one, other)
                    self.assertEqual(
                        [(part.top, part.low) for part in told],
                        [(part.numerator, part.denominator) for part in wanted],
                    )

    def test_told_one_by_one(self):
        self.assertEqual(Part(1, 2).plus(Part(1, 3)), Part(5, 6))
        self.assertEqual(Part(1, 2).minus(Part(1, 3)), Part(1, 6))
        self.assertEqual(Part(2, 3).times(Part(3, 4)), Part(1, 2))
        self.assertEqual(Part(1, 2).over(Part(-1, 3)), Part(-3, 2))

    def test_large_numbers_stay_exact(self):
        part = Part(LARGE, 3).plus(Part(1, LARGE))
        self.assertEqual((part.top, part.low), (LARGE * LARGE + 3, 3 * LARGE))

    def test_parted_by_nought_is_refused(self):
        for part in (Part(3), Part(0), Part(-1, 2)):
            with self.subTest(part=part):
                with self.assertRaises(NoMeasure):
                    part.over(Part(0))
                with self.assertRaises(NoMeasure):
                    part.over(Part(1, 3).minus(Part(1, 3)))

    def test_nought_itself_is_refused_nowhere_else(self):
        nought = Part(0)
        self.assertEqual(nought.over(Part(5)), nought)
        self.assertEqual(nought.over(Part(-5, 3)), nought)
        self.assertEqual(nought.times(nought), nought)
        self.assertEqual(nought.plus(nought), nought)
        self.assertEqual(nought.minus(nought), nought)


class PurseMaking(unittest.TestCase):
    def test_left_out(self):
        purse = Purse()
        self.assertEqual(purse.coins(), [])
        self.assertEqual(len(purse), 0)
        self.assertEqual(repr(purse), "nought")

    def test_list_tuple_and_name(self):
        pairs = [("y", Part(1, 2)), ("x", Part(3))]
        for purse in (Purse(pairs), Purse(tuple(pairs)), Purse(rows=pairs)):
            self.assertEqual(purse.coins(), ["x", "y"])
            self.assertEqual(purse.at("x"), Part(3))
            self.assertEqual(purse.at("y"), Part(1, 2))
        self.assertEqual(Purse([]), Purse())
        self.assertEqual(Purse(()), Purse())

    def test_several_pairs_of_one_coin_are_added(self):
        purse = Purse([("x", Part(1, 2)), ("y", Part(1)), ("x", Part(1, 3)), ("x", Part(1))])
        self.assertEqual(purse.at("x"), Part(11, 6))
        self.assertEqual(purse.at("y"), Part(1))
        self.assertEqual(len(purse), 2)

    def test_noughts_are_not_in_it(self):
        purse = Purse([("x", Part(1)), ("y", Part(0)), ("x", Part(-1)), ("z", Part(2))])
        self.assertEqual(purse.coins(), ["z"])
        self.assertEqual(len(purse), 1)
        self.assertEqual(repr(purse), "2 z")
        self.assertEqual(Purse([("x", Part(1)), ("x", Part(-1))]), Purse())

    def test_sum_that_comes_to_nought_midway(self):
        purse = Purse([("x", Part(1)), ("x", Part(-1)), ("x", Part(5))])
        self.assertEqual(purse.at("x"), Part(5))

    def test_parts_below_nought(self):
        purse = Purse([("x", Part(-3, 4))])
        self.assertEqual(purse.at("x"), Part(-3, 4))
        self.assertEqual(purse.coins(), ["x"])

    def test_handed_list_stays_and_is_not_kept(self):
        pairs = [("y", Part(1)), ("x", Part(0)), ("y", Part(2))]
        before = list(pairs)
        purse = Purse(pairs)
        self.assertEqual(pairs, before)
        pairs.append(("z", Part(9)))
        pairs[0] = ("q", Part(9))
        self.assertEqual(purse.coins(), ["y"])
        self.assertEqual(purse.at("y"), Part(3))
        self.assertEqual(purse.at("z"), Part(0))
        self.assertEqual(repr(purse), "3 y")

    def test_told_list_is_the_askers_own(self):
        purse = Purse([("x", Part(1)), ("y", Part(2))])
        purse.coins().append("z")
        purse.coins().clear()
        told = purse.coins()
        told.reverse()
        self.assertEqual(purse.coins(), ["x", "y"])
        self.assertEqual(len(purse), 2)


class PurseTelling(unittest.TestCase):
    def test_coins_are_a_sorted_list(self):
        purse = Purse([(coin, Part(1)) for coin in ("pear", "b", "az", "a", "aa")])
        self.assertEqual(purse.coins(), ["a", "aa", "az", "b", "pear"])
        self.assertIsInstance(purse.coins(), list)

    def test_coins_of_any_length(self):
        purse = Purse([("sovereigns", Part(2))])
        self.assertEqual(purse.at("sovereigns"), Part(2))

    def test_at_a_coin_that_is_not_in_it(self):
        purse = Purse([("x", Part(1))])
        self.assertEqual(purse.at("y"), Part(0))
        self.assertIsInstance(purse.at("y"), Part)
        self.assertEqual(Purse().at("x"), Part(0))
        self.assertEqual(purse.coins(), ["x"])

    def test_len(self):
        for many in range(4):
            rows = [(coin, Part(1)) for coin in "abcd"[:many]]
            self.assertEqual(len(Purse(rows)), many)

    def test_repr(self):
        self.assertEqual(repr(Purse([("y", Part(-1, 2)), ("x", Part(3))])), "3 x, -1/2 y")
        self.assertEqual(str(Purse([("y", Part(-1, 2)), ("x", Part(3))])), "3 x, -1/2 y")
        self.assertEqual(repr(Purse([("x", Part(7, 3))])), "7/3 x")
        self.assertEqual(repr(Purse()), "nought")
        self.assertEqual(str(Purse()), "nought")


class PurseEquality(unittest.TestCase):
    def test_same_holdings(self):
        one = Purse([("x", Part(1)), ("y", Part(2, 4))])
        other = Purse([("y", Part(1, 2)), ("z", Part(0)), ("x", Part(3)), ("x", Part(-2))])
        self.assertTrue(one == other)
        self.assertFalse(one != other)
        self.assertTrue(Purse() == Purse([("x", Part(0))]))

    def test_other_holdings(self):
        purse = Purse([("x", Part(1)), ("y", Part(2))])
        for rows in (
            [],
            [("x", Part(1))],
            [("y", Part(2))],
            [("x", Part(1)), ("y", Part(3))],
            [("x", Part(2)), ("y", Part(1))],
            [("x", Part(1)), ("z", Part(2))],
            [("x", Part(1)), ("y", Part(2)), ("z", Part(3))],
        ):
            with self.subTest(rows=rows):
                self.assertFalse(purse == Purse(rows))
                self.assertFalse(Purse(rows) == purse)
                self.assertTrue(purse != Purse(rows))

    def test_equal_to_nothing_else(self):
        purse = Purse([("x", Part(1))])
        for other in ({"x": Part(1)}, [("x", Part(1))], (("x", Part(1)),), "1 x", None, 1, Part(1), AlwaysEqual()):
            with self.subTest(other=other):
                self.assertFalse(purse == other)
                self.assertTrue(purse != other)
        for other in (None, 0, False, "", "nought", [], {}, Part(0)):
            with self.subTest(other=other):
                self.assertFalse(Purse() == other)


class PurseReckoning(unittest.TestCase):
    def setUp(self):
        self.one = Purse([("x", Part(1, 2)), ("y", Part(3))])
        self.other = Purse([("y", Part(-3)), ("z", Part(1, 4))])

    def tearDown(self):
        self.assertEqual(repr(self.one), "1/2 x, 3 y")
        self.assertEqual(repr(self.other), "-3 y, 1/4 z")

    def test_plus(self):
        told = self.one.plus(self.other)
        self.assertIsInstance(told, Purse)
        self.assertEqual(repr(told), "1/2 x, 1/4 z")
        self.assertEqual(len(told), 2)

    def test_minus(self):
        self.assertEqual(repr(self.one.minus(self.other)), "1/2 x, 6 y, -1/4 z")
        self.assertEqual(repr(self.other.minus(self.one)), "-1/2 x, -6 y, 1/4 z")
        self.assertEqual(self.one.minus(self.one), Purse())
        self.assertEqual(len(self.one.minus(self.one)), 0)

    def test_times(self):
        self.assertEqual(repr(self.one.times(Part(2))), "1 x, 6 y")
        self.assertEqual(repr(self.one.times(Part(-2, 3))), "-1/3 x, -2 y")
        self.assertEqual(self.one.times(Part(0)), Purse())
        self.assertEqual(self.one.times(Part(0)).coins(), [])

    def test_with_the_empty_purse(self):
        empty = Purse()
        self.assertEqual(self.one.plus(empty), self.one)
        self.assertEqual(empty.plus(self.one), self.one)
        self.assertEqual(self.one.minus(empty), self.one)
        self.assertEqual(empty.minus(self.one), self.one.times(Part(-1)))
        self.assertEqual(empty.times(Part(5)), empty)

    def test_with_itself(self):
        self.assertEqual(repr(self.one.plus(self.one)), "1 x, 6 y")


class PurseWorth(unittest.TestCase):
    def test_sum_over_coins_parted_by_a_thousand(self):
        purse = Purse([("x", Part(3)), ("y", Part(-1, 2))])
        self.assertEqual(purse.worth({"x": 1000, "y": 250}), Part(23, 8))
        self.assertEqual(purse.worth({"x": 1, "y": 1}), Part(5, 2000))
        self.assertEqual(purse.worth({"x": 1, "y": 6}), Part(0))
        self.assertIsInstance(purse.worth({"x": 1, "y": 6}), Part)

    def test_rates_beside_the_coins_of_the_purse(self):
        purse = Purse([("x", Part(2))])
        rates = {"a": 7, "x": 1500, "z": 1000000000}
        self.assertEqual(purse.worth(rates), Part(3))
        self.assertEqual(rates, {"a": 7, "x": 1500, "z": 1000000000})

    def test_empty_purse(self):
        self.assertEqual(Purse().worth({}), Part(0))
        self.assertEqual(Purse().worth({"x": 5}), Part(0))

    def test_coin_that_came_to_nought_needs_no_rate(self):
        self.assertEqual(Purse([("x", Part(0)), ("y", Part(1))]).worth({"y": 2000}), Part(2))

    def test_large_numbers_stay_exact(self):
        purse = Purse([("x", Part(LARGE)), ("y", Part(1, 3))])
        self.assertEqual(purse.worth({"x": 999999999, "y": 1}), Part(LARGE * 999999999 * 3 + 1, 3000))


if __name__ == "__main__":
    unittest.main()
