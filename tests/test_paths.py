"""Points 17 and 18: inner links, cut paths, what pieces cost a roof, and fresh links."""

import unittest

from oneroof.parts import Part, Purse
from oneroof.paths import cost, cut, fresh, inner

GOT = (1, 2, "", "a", "x", 30, 10)
TO_B = (4, 3, "a", "b", "y", 45, 5)
TO_C = (6, 5, "b", "c", "x", 100, 4)
BACK = (7, 6, "c", "a", "x", 9, 2)
PATH = (GOT, TO_B, TO_C, BACK)
ALL = {"a": 0, "b": 0, "c": 0}


def purse(coin, top, low=1):
    return Purse([(coin, Part(top, low))])


class Inner(unittest.TestCase):
    def test_both_under_the_roof_since_its_day_or_an_earlier_one(self):
        for giver in range(6):
            for taker in range(6):
                with self.subTest(giver=giver, taker=taker):
                    wanted = giver <= 3 and taker <= 3
                    self.assertIs(inner(TO_B, {"a": giver, "b": taker}), wanted)
                    self.assertIs(inner(TO_B, {"c": 0, "b": taker, "a": giver}), wanted)

    def test_one_of_them_or_none_under_the_roof(self):
        for since in ({}, {"a": 0}, {"b": 0}, {"c": 0}, {"a": 0, "c": 0}, {"b": 0, "c": 0}):
            self.assertIs(inner(TO_B, since), False)

    def test_what_strangers_gave_is_never_inner(self):
        for since in ({}, {"a": 0}, ALL):
            self.assertIs(inner(GOT, since), False)

    def test_on_the_first_day(self):
        self.assertIs(inner((1, 0, "a", "b", "x", 5, 1), {"a": 0, "b": 0}), True)
        self.assertIs(inner((1, 0, "a", "b", "x", 5, 1), {"a": 0, "b": 1}), False)
        self.assertIs(inner((1, 0, "a", "b", "x", 5, 1), {"a": 1, "b": 0}), False)


class Cut(unittest.TestCase):
    def test_without_its_inner_links_in_order(self):
        for since, wanted in (
            ({}, PATH),
            ({"a": 0}, PATH),
            ({"a": 0, "b": 0}, (GOT, TO_C, BACK)),
            ({"b": 0, "c": 0}, (GOT, TO_B, BACK)),
            ({"a": 0, "c": 0}, (GOT, TO_B, TO_C)),
            (ALL, (GOT,)),
            ({"a": 3, "b": 3, "c": 5}, (GOT,)),
            ({"a": 4, "b": 3, "c": 5}, (GOT, TO_B)),
            ({"a": 3, "b": 4, "c": 5}, (GOT, TO_B)),
            ({"a": 3, "b": 3, "c": 6}, (GOT, TO_C)),
            ({"a": 7, "b": 0, "c": 0}, (GOT, TO_B, BACK)),
            ({"a": 0, "b": 7, "c": 0}, (GOT, TO_B, TO_C)),
            ({"a": 9, "b": 9, "c": 9}, PATH),
        ):
            with self.subTest(since=since):
                told = cut(PATH, since)
                self.assertEqual(told, wanted)
                self.assertIsInstance(told, tuple)

    def test_path_of_one_link(self):
        self.assertEqual(cut((GOT,), ALL), (GOT,))
        self.assertEqual(cut((GOT,), {}), (GOT,))

    def test_what_is_handed_in_stays(self):
        since = {"b": 3, "a": 2}
        cut(PATH, since)
        fresh(2, PATH, since)
        cost(2, PATH, since=since)
        self.assertEqual(list(since.items()), [("b", 3), ("a", 2)])


class Cost(unittest.TestCase):
    def test_their_holder_where_there_are_no_since_days(self):
        self.assertEqual(cost(2, PATH), purse("x", 9))
        self.assertEqual(cost(2, PATH, since=None), purse("x", 9))
        self.assertEqual(cost(2, PATH, since={}), purse("x", 9))

    def test_the_roof_by_the_last_link_of_the_cut_path(self):
        for since, wanted in (
            ({"a": 0}, purse("x", 9)),
            ({"a": 0, "b": 0}, purse("x", 9)),
            ({"b": 0, "c": 0}, purse("x", 9)),
            ({"a": 0, "c": 0}, purse("x", 50)),
            ({"a": 7, "c": 0}, purse("x", 9)),
            ({"a": 3, "b": 6, "c": 6}, purse("x", 50)),
            ({"a": 4, "b": 4, "c": 4}, purse("y", 18)),
            (ALL, purse("x", 6)),
        ):
            with self.subTest(since=since):
                self.assertEqual(cost(2, PATH, since=since), wanted)

    def test_count_times_price_by_count(self):
        self.assertEqual(cost(1, PATH), purse("x", 9, 2))
        self.assertEqual(cost(5, PATH[:2]), purse("y", 45))
        self.assertEqual(cost(7, PATH[:1]), purse("x", 21))
        self.assertEqual(cost(1, [(3, 1, "", "a", "z", 10, 3)]), purse("z", 10, 3))

    def test_of_very_many_pieces(self):
        many = 9 ** 60
        self.assertEqual(cost(many, ((1, 0, "", "a", "x", 7, 3 * many),)), purse("x", 7, 3))

    def test_where_no_link_is_left(self):
        self.assertEqual(cost(5, (TO_B,), since=ALL), Purse())
        self.assertEqual(fresh(5, (TO_B,), ALL), [("a", purse("y", 45))])
        self.assertEqual(fresh(5, (TO_B,), {}), [])

    def test_for_nought(self):
        self.assertEqual(cost(5, ((1, 0, "", "a", "x", 0, 5),)), Purse())


class Fresh(unittest.TestCase):
    def test_last_links_back_to_the_last_one_that_is_not_inner(self):
        to_b = ("a", Purse([("y", Part(18)), ("x", Part(-6))]))
        to_c = ("b", Purse([("x", Part(50)), ("y", Part(-18))]))
        back = ("c", purse("x", -41))
        for since, wanted in (
            ({}, []),
            ({"a": 0}, []),
            ({"a": 0, "b": 0}, []),
            ({"b": 0, "c": 0}, []),
            ({"a": 0, "c": 0}, [back]),
            ({"a": 6, "c": 6}, [back]),
            ({"a": 7, "c": 0}, []),
            ({"a": 0, "c": 7}, []),
            ({"a": 0, "b": 6, "c": 0}, [back]),
            ({"a": 4, "b": 5, "c": 5}, [to_c, back]),
            ({"a": 3, "b": 3, "c": 6}, [back]),
            (ALL, [to_b, to_c, back]),
        ):
            with self.subTest(since=since):
                told = fresh(2, PATH, since)
                self.assertEqual(told, wanted)
                self.assertIsInstance(told, list)
                self.assertEqual([type(row) for row in told], [tuple] * len(wanted))

    def test_inner_links_ahead_of_one_that_is_not_are_not_fresh(self):
        self.assertEqual(fresh(2, PATH, {"a": 0, "b": 0, "c": 7}), [])
        self.assertEqual(fresh(2, PATH[:3], {"a": 0, "b": 0, "c": 6}), [])
        self.assertEqual(fresh(2, PATH[:2], {"a": 0, "b": 0, "c": 6}), [("a", fresh(2, PATH, ALL)[0][1])])

    def test_one_link_got_of_strangers_is_not_fresh(self):
        self.assertEqual(fresh(2, (GOT,), ALL), [])

    def test_told_for_each_link_even_where_nothing_was_gained(self):
        path = (GOT, (4, 3, "a", "b", "x", 15, 5), (5, 3, "b", "a", "x", 0, 4), (6, 3, "a", "b", "x", 0, 1))
        self.assertEqual(
            fresh(5, path, ALL),
            [("a", Purse()), ("b", purse("x", -15)), ("a", Purse())],
        )

    def test_gains_come_to_the_cost_to_the_holder_less_that_to_the_roof(self):
        for since in (ALL, {"a": 4, "b": 4, "c": 4}, {"a": 0, "c": 0}):
            gained = Purse()
            for _, won in fresh(3, PATH, since):
                gained = gained.plus(won)
            behind = len(PATH) - len(fresh(3, PATH, since))
            self.assertEqual(gained, cost(3, PATH).minus(cost(3, PATH[:behind])))

    def test_told_list_is_the_askers_own(self):
        fresh(2, PATH, ALL).clear()
        self.assertEqual(len(fresh(2, PATH, ALL)), 3)


if __name__ == "__main__":
    unittest.main()
