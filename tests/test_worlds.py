"""Points 1 and 5 to 8: worlds, and what is looked at in a deed."""

import unittest

from oneroof import worlds
from oneroof.errors import BadCount, BadDay, BadDeed, BadName, BadNumber, NoCoin, NoHouse, Taken
from oneroof.worlds import World, need_coin, need_day, need_deed, need_house, need_thing
from tests.deeds import HOUSE, RIGHT, THING, WRONG, misshapen, one_sided, small_world, twice_wrong, with_place
from tests.deeds import wrong_places

NAMES = ("a", "b", "c", "d", "e", "f", "g", "h", "i")
WRONG_NAMES = ("", "abcdefg", "A", "aB", "a1", "1", "a b", " a", "@a", "a-", "a_", "a`", "{a", "a\n")


def rows(many, number=10):
    return [(name, number) for name in NAMES[:many]]


class Refusing(unittest.TestCase):
    def refused(self, error, fields, call, *arguments):
        with self.assertRaises(error) as caught:
            call(*arguments)
        self.assertIs(type(caught.exception), error)
        self.assertEqual(vars(caught.exception), fields)


class Bounds(unittest.TestCase):
    def test_named_bounds(self):
        self.assertEqual(worlds.MOST_DAY, 29)
        self.assertEqual(worlds.MOST_DEEDS, 60)


class WorldMaking(Refusing):
    def test_told_in_the_handed_order(self):
        world = World([("y", 250), ("x", 1000)], [("c", 3), ("a", 1), ("b", 2)])
        self.assertEqual(world.coin_rows(), [("y", 250), ("x", 1000)])
        self.assertEqual(world.house_rows(), [("c", 3), ("a", 1), ("b", 2)])

    def test_arguments_by_name(self):
        world = World(houses=[("a", 1)], coins=[("x", 2)])
        self.assertEqual((world.coin_rows(), world.house_rows()), ([("x", 2)], [("a", 1)]))

    def test_least_and_most_coins_and_houses(self):
        for coins in (1, 5):
            for houses in (1, 8):
                world = World(rows(coins), rows(houses))
                self.assertEqual(world.coin_rows(), rows(coins))
                self.assertEqual(world.house_rows(), rows(houses))

    def test_too_few_and_too_many(self):
        for many in (0, 6, 8):
            self.refused(BadCount, {"count": many}, World, rows(many), rows(1))
        for many in (0, 9):
            self.refused(BadCount, {"count": many}, World, rows(1), rows(many))

    def test_least_and_greatest_numbers(self):
        world = World([("x", 1), ("y", 1000000000)], [("a", 1), ("b", 1000000)])
        self.assertEqual(world.coin_rows(), [("x", 1), ("y", 1000000000)])
        self.assertEqual(world.house_rows(), [("a", 1), ("b", 1000000)])

    def test_numbers_out_of_bounds(self):
        for number in (0, -1, 1000000001):
            self.refused(BadNumber, {"number": number}, World, [("x", 1), ("y", number)], rows(1))
        for number in (0, -1, 1000001):
            self.refused(BadNumber, {"number": number}, World, rows(1), [("a", 1), ("b", number)])

    def test_names_at_the_bounds(self):
        for name in ("a", "z", "az", "abcdef", "zzzzzz"):
            self.assertEqual(World([(name, 1)], [("a", 1)]).coin_rows(), [(name, 1)])
            self.assertEqual(World([("x", 1)], [(name, 1)]).house_rows(), [(name, 1)])

    def test_wrong_names(self):
        for name in WRONG_NAMES:
            with self.subTest(name=name):
                self.refused(BadName, {"name": name}, World, [("x", 1), (name, 1)], rows(1))
                self.refused(BadName, {"name": name}, World, rows(1), [("a", 1), (name, 1)])

    def test_names_that_stood_before(self):
        self.refused(Taken, {"name": "x"}, World, [("x", 1), ("y", 1), ("x", 2)], rows(1))
        self.refused(Taken, {"name": "a"}, World, rows(1), [("b", 1), ("a", 1), ("a", 1)])

    def test_coin_and_house_of_one_name(self):
        world = World([("a", 7)], [("a", 9)])
        self.assertEqual((world.coin_rows(), world.house_rows()), ([("a", 7)], [("a", 9)]))
        self.assertIsNone(need_coin(world, "a"))
        self.assertIsNone(need_house(world, "a"))


class OrderOfLooking(Refusing):
    def test_coins_before_houses(self):
        houses = ([], rows(9), [("A", 1)], [("a", 1), ("a", 1)], [("a", 0)])
        for wrong in houses:
            with self.subTest(wrong=wrong):
                self.refused(BadCount, {"count": 6}, World, rows(6), wrong)
                self.refused(BadName, {"name": "X"}, World, [("X", 1)], wrong)
                self.refused(Taken, {"name": "x"}, World, [("x", 1), ("x", 1)], wrong)
                self.refused(BadNumber, {"number": -3}, World, [("x", -3)], wrong)

    def test_count_before_what_stands_in_the_rows(self):
        for wrong in (("A", 1), ("b", 1), ("a", 0)):
            many = [wrong] + rows(9)
            self.refused(BadCount, {"count": 10}, World, many, rows(1))
            self.refused(BadCount, {"count": 10}, World, rows(1), many)

    def test_one_row_after_the_other(self):
        for first, error, fields in (
            (("a", 0), BadNumber, {"number": 0}),
            (("A", 1), BadName, {"name": "A"}),
            (("b", 1), Taken, {"name": "b"}),
        ):
            for second in (("B", 1), ("b", 1), ("c", -1)):
                wrong = [("b", 5), first, second]
                with self.subTest(wrong=wrong):
                    self.refused(error, fields, World, wrong, rows(1))
                    self.refused(error, fields, World, rows(1), wrong)

    def test_name_before_number(self):
        self.refused(BadName, {"name": "X"}, World, [("X", 0)], rows(1))
        self.refused(BadName, {"name": "A"}, World, rows(1), [("A", 0)])

    def test_taken_before_number(self):
        self.refused(Taken, {"name": "x"}, World, [("x", 1), ("x", 0)], rows(1))
        self.refused(Taken, {"name": "a"}, World, rows(1), [("a", 1), ("a", 0)])


class OwnLists(unittest.TestCase):
    def test_handed_lists_stay_and_are_not_kept(self):
        coins, houses = [("y", 1), ("x", 2)], [("b", 3), ("a", 4)]
        world = World(coins, houses)
        self.assertEqual((coins, houses), ([("y", 1), ("x", 2)], [("b", 3), ("a", 4)]))
        coins.append(("z", 5))
        houses.clear()
        self.assertEqual(world.coin_rows(), [("y", 1), ("x", 2)])
        self.assertEqual(world.house_rows(), [("b", 3), ("a", 4)])

    def test_told_lists_are_the_askers_own(self):
        world = small_world()
        world.coin_rows().append(("z", 5))
        world.house_rows().clear()
        self.assertEqual(world.coin_rows(), [("x", 1000), ("y", 250)])
        self.assertEqual(world.house_rows(), [("a", 100), ("b", 40), ("c", 1)])
        self.assertIsInstance(world.coin_rows(), list)
        self.assertIsInstance(world.house_rows()[0], tuple)


class Needs(Refusing):
    def test_houses(self):
        for name in ("a", "b", "c"):
            self.assertIsNone(need_house(small_world(), name))
        for name in ("d", "x", "y", "", "A", "@a", "ab", " a", "a "):
            self.refused(NoHouse, {"name": name}, need_house, small_world(), name)

    def test_coins(self):
        for name in ("x", "y"):
            self.assertIsNone(need_coin(small_world(), name))
        for name in ("z", "a", "b", "", "X", "@x", "xy", " x", "x "):
            self.refused(NoCoin, {"name": name}, need_coin, small_world(), name)

    def test_days(self):
        for day in range(30):
            self.assertIsNone(need_day(day))
        for day in (-1, 30, -29, 31, 10 ** 20, 10 ** 6000, -10 ** 6000):
            self.refused(BadDay, {"day": day}, need_day, day)

    def test_things(self):
        for thing in ("a", "z", "corn", "abcdef", "x", "d", "@a", "@b", "@c"):
            self.assertIsNone(need_thing(small_world(), thing))
        for thing, error, fields in THING:
            with self.subTest(thing=thing):
                self.refused(error, fields, need_thing, small_world(), thing)


class Deeds(Refusing):
    def test_right_deeds_of_all_kinds(self):
        self.assertEqual({deed[0] for deed in RIGHT}, set(WRONG))
        for deed in RIGHT:
            with self.subTest(deed=deed):
                self.assertIsNone(need_deed(small_world(), deed))

    def test_right_days(self):
        for day in range(30):
            self.assertIsNone(need_deed(small_world(), ("split", day, "a", 2)))

    def test_wrong_places(self):
        for deed, error, fields in wrong_places():
            with self.subTest(deed=deed):
                self.refused(error, fields, need_deed, small_world(), deed)

    def test_left_place_is_refused_first(self):
        for deed, error, fields in twice_wrong():
            with self.subTest(deed=deed):
                self.refused(error, fields, need_deed, small_world(), deed)

    def test_kind_and_number_of_places(self):
        for deed in misshapen():
            with self.subTest(deed=deed):
                self.refused(BadDeed, {}, need_deed, small_world(), deed)

    def test_number_of_places_before_the_places(self):
        for deed in (("split", 30, "a"), ("pay", -1, "d", "z"), ("rate", 30, "z", 0, 1)):
            self.refused(BadDeed, {}, need_deed, small_world(), deed)

    def test_one_house_on_both_sides(self):
        self.assertEqual({deed[0] for deed in one_sided()}, {"hand", "lend", "fee"})
        for deed in one_sided():
            with self.subTest(deed=deed):
                self.refused(BadDeed, {}, need_deed, small_world(), deed)

    def test_places_before_one_house_on_both_sides(self):
        for kind in ("hand", "lend", "fee"):
            deed = [deed for deed in one_sided() if deed[0] == kind][0]
            for place, values in enumerate(WRONG[kind], 1):
                if values == HOUSE:
                    continue
                for wrong, error, fields in values:
                    with self.subTest(deed=deed, place=place, wrong=wrong):
                        self.refused(error, fields, need_deed, small_world(), with_place(deed, place, wrong))

    def test_wrong_house_on_both_sides_is_no_house(self):
        self.refused(NoHouse, {"name": "d"}, need_deed, small_world(), ("fee", 1, "d", "d", "x", 5))

    def test_world_tells_its_own_names(self):
        other = World([("z", 1)], [("d", 1), ("e", 1)])
        self.assertIsNone(need_deed(other, ("fee", 1, "d", "e", "z", 5)))
        self.refused(NoHouse, {"name": "a"}, need_deed, other, ("fee", 1, "a", "b", "x", 5))

    def test_number_of_thousands_of_figures(self):
        self.refused(BadNumber, {"number": 10 ** 6000}, need_deed, small_world(), ("pay", 1, "a", "x", 10 ** 6000))

    def test_deed_and_world_stay_as_they_were(self):
        world = small_world()
        for deed in RIGHT:
            before = tuple(deed)
            need_deed(world, deed)
            self.assertEqual(deed, before)
        self.assertEqual(world.coin_rows(), [("x", 1000), ("y", 250)])
        self.assertEqual(world.house_rows(), [("a", 100), ("b", 40), ("c", 1)])


if __name__ == "__main__":
    unittest.main()
