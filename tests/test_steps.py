"""Points 26 and 27: since-days of a head, and how houses came in."""

import unittest

from oneroof.errors import BadDay, NoHouse, NotRuled, Ring, Short
from oneroof.owners import ruled, share
from oneroof.parts import Part, Purse
from oneroof.paths import cost
from oneroof.stakes import worth_of
from oneroof.states import play
from oneroof.steps import Coming, coming, spells
from oneroof.worlds import World
from tests.deeds import thrown_world, walk_order, walkable_rows

HOUSES = ("a", "b", "c", "d")
SHORT = ("sell", 2, "a", "corn", 1, "x", 1)
RING = ("get", 2, "a", "@a", 1, "x", 1)


def world():
    return World([("x", 1000), ("y", 250)], [("b", 20), ("a", 10), ("d", 40), ("c", 30)])


def numbered(*deeds):
    return list(enumerate(deeds, 1))


def purse(**amounts):
    return Purse([(coin, Part(amount)) for coin, amount in amounts.items()])


def get(day, house, other, count, price=0, coin="x"):
    return ("get", day, house, "@" + other, count, coin, price)


def sell(day, house, other, count):
    return ("sell", day, house, "@" + other, count, "x", 0)


class Refusing(unittest.TestCase):
    def refused(self, error, fields, asked, *more):
        with self.subTest(more=more):
            with self.assertRaises(error) as caught:
                asked(world(), *more)
            self.assertIs(type(caught.exception), error)
            self.assertEqual(vars(caught.exception), fields)


class Spells(Refusing):
    def since(self, deeds, head, day):
        return spells(world(), numbered(*deeds), head, day)

    def test_head_alone_since_day_0(self):
        for head in HOUSES:
            for day in (0, 7, 29):
                self.assertEqual(self.since([], head, day), {head: 0})

    def test_since_the_first_of_all_days_up_to_that_one(self):
        deeds = [get(3, "a", "b", 11), get(5, "b", "c", 16)]
        for day, wanted in ((0, {}), (2, {}), (3, {"b": 3}), (4, {"b": 3}), (5, {"b": 3, "c": 5}), (29, {"b": 3, "c": 5})):
            self.assertEqual(self.since(deeds, "a", day), {"a": 0, **wanted})
        self.assertEqual(self.since(deeds, "b", 29), {"b": 0, "c": 5})
        self.assertEqual(self.since(deeds, "c", 29), {"c": 0})

    def test_houses_that_leave_and_come_again(self):
        deeds = [get(0, "a", "b", 11), sell(4, "a", "b", 1), get(7, "a", "b", 1), sell(9, "a", "b", 5), get(9, "a", "b", 5),
                 sell(12, "a", "b", 11), get(13, "a", "b", 20)]
        for days, since in ((range(0, 4), 0), (range(4, 7), None), (range(7, 12), 7), (range(12, 13), None), (range(13, 30), 13)):
            for day in days:
                with self.subTest(day=day):
                    self.assertEqual(self.since(deeds, "a", day), {"a": 0} if since is None else {"a": 0, "b": since})

    def test_at_the_end_of_the_day_alone_it_counts(self):
        deeds = [get(4, "a", "b", 11), sell(4, "a", "b", 11), get(6, "a", "b", 11), sell(8, "a", "b", 2), get(8, "c", "b", 1),
                 get(8, "a", "b", 2)]
        self.assertEqual(self.since(deeds, "a", 5), {"a": 0})
        self.assertEqual(self.since(deeds, "a", 9), {"a": 0, "b": 6})

    def test_a_house_below_one_that_leaves_leaves_with_it(self):
        deeds = [get(1, "a", "b", 11), get(2, "b", "c", 16), get(3, "a", "d", 21), sell(5, "a", "b", 11), get(6, "a", "b", 15)]
        self.assertEqual(self.since(deeds, "a", 4), {"a": 0, "b": 1, "c": 2, "d": 3})
        self.assertEqual(self.since(deeds, "a", 5), {"a": 0, "d": 3})
        self.assertEqual(self.since(deeds, "a", 6), {"a": 0, "b": 6, "c": 6, "d": 3})

    def test_from_one_ruler_under_the_roof_to_another(self):
        deeds = [get(1, "a", "b", 11), get(1, "a", "c", 16), ("hand", 3, "a", "b", "@c", 10, "x", 1)]
        self.assertEqual(self.since(deeds, "a", 5), {"a": 0, "b": 1, "c": 1})
        self.assertEqual(self.since(deeds, "b", 5), {"b": 0})

    def test_each_day_of_all_thirty(self):
        deeds = [(get if day % 2 == 0 else sell)(day, "a", "b", 11) for day in range(30)]
        for day in range(30):
            self.assertEqual(self.since(deeds, "a", day), {"a": 0, "b": day} if day % 2 == 0 else {"a": 0})

    def test_refusals_in_their_order(self):
        for house in ("e", "", "x", "@a"):
            for day in (3, 30, -1):
                self.refused(NoHouse, {"name": house}, spells, numbered(SHORT), house, day)
        for day in (-1, 30, 1000):
            self.refused(BadDay, {"day": day}, spells, numbered(SHORT), "b", day)
        self.refused(Short, {"number": 1}, spells, numbered(SHORT, RING), "b", 2)
        self.refused(Ring, {"number": 1, "ring": ["a"]}, spells, numbered(RING, SHORT), "b", 29)
        self.assertEqual(self.since([SHORT, RING], "b", 1), {"b": 0})

    def test_told_dict_is_the_askers_own_and_rows_stay(self):
        rows = numbered(get(3, "a", "b", 11))
        told = spells(world(), rows, "a", 5)
        told["b"] = 0
        self.assertEqual(spells(world(), rows, "a", 5), {"a": 0, "b": 3})
        self.assertEqual(rows, numbered(get(3, "a", "b", 11)))

    def test_thrown_rows_day_by_day(self):
        again = 0
        for seed in range(60):
            rows = walkable_rows(seed)
            under = {day: {head: dict(ruled(play(thrown_world(), rows, day), head)) for head in HOUSES} for day in range(5)}
            for day in range(5):
                for head in HOUSES:
                    wanted = {}
                    for house in under[day][head]:
                        first = day
                        while first > 0 and house in under[first - 1][head]:
                            first -= 1
                        wanted[house] = first
                        again += any(house in under[ahead][head] for ahead in range(first))
                    self.assertEqual(spells(thrown_world(), rows, head, day), wanted)
        self.assertGreater(again, 3)


class Comings(unittest.TestCase):
    def came(self, deeds, head="a", house="b", day=29, **wanted):
        told = coming(world(), numbered(*deeds), head, house, day)
        self.assertIsInstance(told, Coming)
        for name, value in wanted.items():
            with self.subTest(name=name):
                self.assertEqual(getattr(told, name), value)
        self.assertEqual(told.house, house)
        self.assertEqual(told.surplus(), told.basis.minus(told.part))
        self.assertEqual(told.step(), told.basis.minus(told.spent))
        return told

    def test_got_at_once(self):
        told = self.came([("fund", 1, "b", "x", 400), ("fund", 1, "b", "y", 40), get(3, "a", "b", 15, 330)],
                         day=3, count=15, spent=purse(x=330), basis=purse(x=330), part=purse(x=300, y=30))
        self.assertEqual((told.day, told.surplus(), told.step()), (3, purse(x=30, y=-30), Purse()))

    def test_what_came_behind_the_day_does_not_count(self):
        deeds = [("fund", 1, "b", "x", 400), get(3, "a", "b", 15, 330)]
        more = [("fund", 4, "b", "x", 400), get(4, "a", "b", 5, 900), ("split", 5, "b", 3), sell(6, "a", "b", 3)]
        for day in range(3, 30):
            self.assertEqual(self.came(deeds + more, day=day), self.came(deeds, day=3))

    def test_in_steps_on_several_days(self):
        deeds = [("fund", 0, "b", "x", 100), get(1, "a", "b", 6, 30), get(2, "a", "b", 3, 18, "y"), get(4, "a", "b", 2, 20)]
        told = self.came(deeds, count=11, spent=purse(x=50, y=18), basis=purse(x=110), part=purse(x=55))
        self.assertEqual((told.day, told.step(), told.surplus()), (4, purse(x=60, y=-18), purse(x=55)))

    def test_in_steps_on_one_day_by_the_last_price(self):
        deeds = [get(4, "a", "b", 8, 16), get(4, "a", "b", 3, 21, "y"), get(4, "a", "b", 4, 20)]
        self.came(deeds, count=15, spent=purse(x=36, y=21), basis=purse(x=75))
        self.came(deeds[:2], count=11, spent=purse(x=16, y=21), basis=purse(y=77))
        rows = [(3, deeds[0]), (9, deeds[1]), (5, deeds[2])]
        self.assertEqual(coming(world(), rows, "a", "b", 4).basis, purse(y=105))

    def test_of_several_houses_under_the_roof_then(self):
        deeds = [get(1, "a", "c", 16, 16), get(2, "c", "b", 7, 70), get(3, "a", "b", 5, 5), ("fund", 3, "b", "y", 200),
                 get(3, "d", "b", 2, 90), ("fee", 4, "a", "b", "x", 3)]
        told = self.came(deeds, count=12, spent=purse(x=75), basis=purse(x=12), part=purse(y=120))
        self.assertEqual((told.day, told.step()), (3, purse(x=-63)))
        deeds.insert(4, get(3, "c", "b", 1, 4, "y"))
        self.came(deeds, count=13, spent=purse(x=75, y=4), basis=purse(y=52), part=purse(y=130))

    def test_from_another_house_and_from_one_under_the_roof(self):
        deeds = [get(1, "d", "b", 15, 15), ("hand", 3, "d", "a", "@b", 11, "x", 44)]
        self.came(deeds, count=11, spent=purse(x=44), basis=purse(x=44), part=Purse())
        deeds = [get(1, "a", "c", 16, 16), get(2, "c", "b", 8, 16), get(3, "a", "b", 4, 20),
                 ("hand", 3, "c", "a", "@b", 2, "x", 60)]
        self.came(deeds, count=12, spent=purse(x=36), basis=purse(x=360), day=3)
        # The other way round the last getting is the one of strangers.
        deeds[2:] = deeds[:1:-1]
        self.came(deeds, count=12, spent=purse(x=36), basis=purse(x=60), day=3)

    def test_gettings_by_houses_that_are_not_ruled_and_of_other_things_do_not_count(self):
        deeds = [get(3, "a", "b", 11, 22), get(3, "c", "b", 1, 90), get(3, "a", "c", 1, 90),
                 ("get", 3, "a", "b", 1, "x", 90), ("hand", 3, "c", "d", "@b", 1, "x", 80)]
        self.came(deeds, basis=purse(x=22))
        deeds = [get(1, "a", "b", 11, 22), get(1, "a", "c", 16, 1), sell(3, "a", "c", 16), sell(3, "a", "b", 11),
                 get(5, "a", "b", 12, 36), get(5, "c", "b", 1, 90)]
        self.came(deeds, basis=purse(x=36))

    def test_sold_again_behind_the_getting(self):
        self.came([get(3, "a", "b", 15, 30), get(3, "a", "b", 1, 9), sell(3, "a", "b", 4)],
                  count=12, spent=purse(x=22 + 9), basis=purse(x=108))

    def test_splits_on_the_day_behind_the_last_getting(self):
        deeds = [("split", 2, "b", 2), ("split", 3, "b", 3), get(3, "a", "b", 61, 61 * 18), ("split", 3, "b", 2), ("split", 3, "c", 5),
                 ("split", 3, "b", 3), ("split", 4, "b", 7)]
        self.came(deeds, count=366, spent=purse(x=1098), basis=purse(x=1098))
        self.came(deeds[:3] + [get(3, "a", "b", 6, 6, "y")] + deeds[3:], count=402, basis=purse(y=67))
        self.came(deeds[:4] + [get(3, "a", "b", 6, 6, "y")] + deeds[4:], count=384, basis=Purse([("y", Part(384, 3))]))
        self.came([get(3, "a", "b", 7, 10), get(3, "a", "b", 7, 10), ("split", 3, "b", 2)], spent=purse(x=20), basis=purse(x=20))

    def test_a_house_that_comes_in_by_another_ones_coming(self):
        deeds = [get(1, "b", "c", 20, 40), ("fund", 2, "c", "y", 60), get(3, "a", "b", 11, 99)]
        told = self.came(deeds, house="c", count=20, spent=purse(x=40), basis=purse(x=40), part=purse(y=40))
        self.assertEqual((told.day, told.step()), (3, Purse()))
        # b gets more shares of c on that day, ahead of its own coming.
        self.came([get(3, "b", "c", 1, 5)] + deeds, house="c", count=21, spent=purse(x=45), basis=purse(x=105))

    def test_nobody_ruled_gets_shares_on_that_day(self):
        handed = ("hand", 2, "d", "c", "@b", 1, "x", 6)
        deeds = [get(1, "a", "b", 10, 90), get(1, "d", "b", 2, 7), handed, get(3, "a", "c", 16, 8)]
        told = self.came(deeds, count=11, spent=purse(x=96), basis=purse(x=96))
        self.assertEqual((told.day, told.step()), (3, Purse()))
        # d, which is not ruled, gets some on that day.
        self.came(deeds + [get(3, "d", "b", 1, 50)], basis=purse(x=96))
        # c is ruled at the end of the day, so what it gets ahead of its own coming counts.
        deeds[2] = ("hand", 3, "d", "c", "@b", 1, "x", 6)
        self.came(deeds, count=11, spent=purse(x=96), basis=purse(x=66))
        self.came([get(0, "a", "b", 11, 22)], day=9, basis=purse(x=22))

    def test_spent_is_what_they_cost_the_roof_by_the_since_days_then(self):
        deeds = [get(1, "a", "c", 16, 1), get(2, "a", "b", 9, 90), ("hand", 3, "a", "c", "@b", 6, "x", 6), get(4, "a", "b", 2, 2)]
        self.came(deeds, count=11, spent=purse(x=92), basis=purse(x=11))
        deeds = [get(2, "a", "b", 9, 90), ("hand", 3, "a", "c", "@b", 6, "x", 6), get(4, "a", "c", 16, 1), get(4, "a", "b", 2, 2)]
        self.came(deeds, count=11, spent=purse(x=38), basis=purse(x=11))
        # Handed on on the day on which c came in, the link is inner.
        deeds = [get(2, "a", "b", 9, 90), get(3, "a", "c", 16, 1), ("hand", 3, "a", "c", "@b", 6, "x", 6), get(4, "a", "b", 2, 2)]
        self.came(deeds, count=11, spent=purse(x=92), basis=purse(x=11))

    def test_a_house_that_leaves_and_comes_again(self):
        deeds = [get(1, "a", "b", 11, 22), sell(4, "a", "b", 3), get(6, "a", "b", 3, 30)]
        for day, entry, spent, basis in ((1, 1, 22, 22), (3, 1, 22, 22), (6, 6, 46, 110), (29, 6, 46, 110)):
            told = self.came(deeds, day=day, count=11, spent=purse(x=spent), basis=purse(x=basis))
            self.assertEqual(told.day, entry)

    def test_for_nought(self):
        self.came([get(3, "a", "b", 15, 30), get(3, "a", "b", 1, 0)], spent=purse(x=30), basis=Purse())


class ComingRefusals(Refusing):
    def test_heads_house_first_then_the_house_then_the_day(self):
        for day in (3, 30):
            for wrong in ("e", "", "@a"):
                self.refused(NoHouse, {"name": wrong}, coming, numbered(SHORT), wrong, "f", day)
                self.refused(NoHouse, {"name": wrong}, coming, numbered(SHORT), "a", wrong, day)
        for day in (-1, 30, 77):
            self.refused(BadDay, {"day": day}, coming, numbered(SHORT), "a", "a", day)

    def test_the_walk_ahead_of_not_ruled(self):
        self.refused(Short, {"number": 1}, coming, numbered(SHORT, RING), "a", "a", 2)
        self.refused(Ring, {"number": 1, "ring": ["a"]}, coming, numbered(RING, SHORT), "a", "c", 2)
        self.refused(NotRuled, {"name": "a"}, coming, numbered(SHORT, RING), "a", "a", 1)

    def test_head_and_houses_that_are_not_ruled(self):
        rows = numbered(get(1, "a", "b", 11), sell(4, "a", "b", 1))
        for day in (0, 4, 29):
            self.refused(NotRuled, {"name": "b"}, coming, rows, "a", "b", day)
        for head in HOUSES:
            self.refused(NotRuled, {"name": head}, coming, rows, head, head, 2)
        self.refused(NotRuled, {"name": "a"}, coming, rows, "b", "a", 2)
        self.assertEqual(coming(world(), rows, "a", "b", 3).day, 1)


class AlwaysEqual:
    def __eq__(self, other):
        return True


class Equality(unittest.TestCase):
    def told(self, *deeds, head="a", house="b", day=29):
        return coming(world(), numbered(*deeds), head, house, day)

    def alone(self, name, one, other):
        names = ("house", "day", "count", "spent", "basis", "part")
        self.assertEqual([place for place in names if getattr(one, place) != getattr(other, place)], [name])
        self.assertFalse(one == other)
        self.assertFalse(other == one)
        self.assertTrue(one != other)

    def test_equal_however_they_came(self):
        one = self.told(get(3, "a", "b", 15, 30))
        self.assertTrue(one == self.told(get(3, "d", "b", 15, 30), head="d"))
        self.assertFalse(one != self.told(("fund", 0, "a", "x", 5), get(3, "a", "b", 15, 30)))

    def test_each_field_parts_them(self):
        one = self.told(get(3, "a", "b", 15, 30))
        self.alone("day", one, self.told(get(4, "a", "b", 15, 30)))
        self.alone("count", one, self.told(get(3, "a", "b", 16, 30)))
        self.alone("part", one, self.told(get(3, "a", "b", 15, 30), ("fund", 3, "b", "x", 8)))
        self.alone("basis", self.told(get(3, "a", "b", 10, 20), get(3, "a", "b", 5, 10)),
                   self.told(get(3, "a", "b", 5, 5), get(3, "a", "b", 10, 25)))
        self.alone("spent", self.told(get(3, "a", "b", 10, 20), get(3, "a", "b", 5, 10)),
                   self.told(get(3, "a", "b", 10, 21), get(3, "a", "b", 5, 10)))
        self.alone("house", self.told(get(3, "a", "c", 21, 30), house="c"), self.told(get(3, "a", "d", 21, 30), house="d"))

    def test_nothing_else(self):
        one = self.told(get(3, "a", "b", 15, 30))
        for other in (None, 0, "Coming(b, day 3)", ("b", 3), one.spent, AlwaysEqual()):
            self.assertFalse(one.__eq__(other))
            self.assertTrue(one.__ne__(other))

    def test_show(self):
        self.assertEqual(repr(self.told(get(3, "a", "b", 15, 30))), "Coming(b, day 3)")
        self.assertEqual(str(self.told(get(0, "a", "c", 25, 30), house="c")), "Coming(c, day 0)")


class ThrownComings(unittest.TestCase):
    def test_each_coming_told_from_the_state_and_the_deeds(self):
        met = []
        for seed in range(150):
            rows = walkable_rows(seed)
            for head in HOUSES:
                for house, entry in spells(thrown_world(), rows, head, 4).items():
                    if house != head:
                        with self.subTest(seed=seed, head=head, house=house):
                            met.append(self.told_alike(rows, head, house, entry))
        self.assertGreater(met.count(True), 10)
        self.assertGreater(met.count(False), 4)

    def told_alike(self, rows, head, house, entry):
        """Whether somebody ruled got shares on the day of coming."""
        told = coming(thrown_world(), rows, head, house, 4)
        state, since = play(thrown_world(), rows, entry), spells(thrown_world(), rows, head, entry)
        thing = "@" + house
        lots = [lot for holder in since for lot in state.pieces(holder, thing)]
        spent = Purse()
        for count, path in lots:
            spent = spent.plus(cost(count, path, since=since))
        self.assertEqual((told.house, told.day, told.count), (house, entry, sum(count for count, _ in lots)))
        self.assertEqual(told.spent, spent)
        self.assertEqual(told.part, worth_of(state, since, house).times(share(state, list(since), house)))
        basis, got = spent, False
        for _, deed in walk_order(rows, entry):
            if deed[1] == entry and thing in deed and deed[0] != "sell" and deed[-5] in since:
                basis, got = Purse([(deed[-2], Part(told.count * deed[-1], deed[-3]))]), True
            if deed[1] == entry and deed[0] == "split" and deed[2] == house and got:
                basis = basis.times(Part(1, deed[3]))
        self.assertEqual(told.basis, basis)
        return got


if __name__ == "__main__":
    unittest.main()
