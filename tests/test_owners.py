"""Points 15 and 16: who rules whom, shares and chains."""

import itertools
import unittest

from oneroof.owners import by_chains, chains, ruled, share
from oneroof.parts import Part
from oneroof.states import play
from oneroof.worlds import World
from tests.deeds import thrown_world, walkable_rows

MADE = {"a": 10, "b": 20, "c": 30, "d": 40, "e": 15}


def held(*rows, more=()):
    """A state in which houses hold shares: (owner, house, count); more deeds stand behind that."""
    deeds = [("get", 0, owner, "@" + house, count, "x", 1) for owner, house, count in rows]
    return play(World([("x", 1000)], list(MADE.items())[::-1]), list(enumerate(deeds + list(more), 1)), 5)


class Ruled(unittest.TestCase):
    def test_head_alone_with_no_votes(self):
        for head in MADE:
            self.assertEqual(ruled(held(), head), [(head, 0)])
        self.assertEqual(ruled(held(("b", "a", 10), ("b", "c", 30)), "a"), [("a", 0)])

    def test_just_half_and_one_share_more(self):
        for house, made in MADE.items():
            for head in MADE:
                if head == house:
                    continue
                for count in (1, made // 2, made // 2 + 1, made):
                    wanted = [(head, 0), (house, count)] if count > made // 2 else [(head, 0)]
                    with self.subTest(head=head, house=house, count=count):
                        self.assertEqual(ruled(held((head, house, count)), head), wanted)

    def test_houses_already_ruled_hold_together(self):
        state = held(("a", "b", 11), ("a", "c", 7), ("b", "c", 8))
        self.assertEqual(ruled(state, "a"), [("a", 0), ("b", 11)])
        state = held(("a", "b", 11), ("a", "c", 7), ("b", "c", 9))
        self.assertEqual(ruled(state, "a"), [("a", 0), ("b", 11), ("c", 16)])
        self.assertEqual(ruled(state, "b"), [("b", 0)])
        state = held(("a", "b", 10), ("a", "c", 7), ("b", "c", 9))
        self.assertEqual(ruled(state, "a"), [("a", 0)])

    def test_through_houses_of_which_the_head_holds_nothing(self):
        state = held(("d", "c", 16), ("c", "b", 11), ("b", "a", 6))
        self.assertEqual(ruled(state, "d"), [("d", 0), ("c", 16), ("b", 11), ("a", 6)])
        self.assertEqual(ruled(state, "c"), [("c", 0), ("b", 11), ("a", 6)])

    def test_each_time_the_first_one_by_name(self):
        state = held(("c", "b", 11), ("c", "d", 21), ("b", "a", 6), ("d", "e", 8))
        self.assertEqual(ruled(state, "c"), [("c", 0), ("b", 11), ("a", 6), ("d", 21), ("e", 8)])
        state = held(("c", "d", 21), ("d", "a", 6), ("a", "b", 11), ("c", "e", 8))
        self.assertEqual(ruled(state, "c"), [("c", 0), ("d", 21), ("a", 6), ("b", 11), ("e", 8)])

    def test_votes_of_those_told_ahead_alone(self):
        state = held(("a", "b", 11), ("a", "c", 16), ("c", "b", 4), ("d", "b", 5))
        self.assertEqual(ruled(state, "a"), [("a", 0), ("b", 11), ("c", 16)])
        state = held(("a", "b", 4), ("a", "c", 16), ("c", "b", 11), ("d", "b", 5))
        self.assertEqual(ruled(state, "a"), [("a", 0), ("c", 16), ("b", 15)])

    def test_behind_a_split(self):
        state = held(("a", "b", 11), ("a", "c", 15), more=(("split", 1, "b", 3), ("split", 1, "c", 2)))
        self.assertEqual(ruled(state, "a"), [("a", 0), ("b", 33)])

    def test_told_list_is_the_askers_own(self):
        state = held(("a", "b", 11))
        told = ruled(state, "a")
        self.assertEqual([type(told), type(told[0])], [list, tuple])
        told.clear()
        self.assertEqual(ruled(state, "a"), [("a", 0), ("b", 11)])


class Share(unittest.TestCase):
    def test_their_shares_by_all_its_shares(self):
        state = held(("a", "b", 5), ("c", "b", 8), ("a", "c", 30))
        for owners, house, wanted in (
            (["a"], "b", Part(1, 4)),
            (["c"], "b", Part(2, 5)),
            (["a", "c"], "b", Part(13, 20)),
            (["c", "a"], "b", Part(13, 20)),
            (["a", "b", "c", "d"], "b", Part(13, 20)),
            (["a"], "c", Part(1)),
            (["d"], "b", Part(0)),
            (["b"], "b", Part(0)),
            ([], "b", Part(0)),
            (["b", "c", "d", "a"], "a", Part(0)),
        ):
            with self.subTest(owners=owners, house=house):
                self.assertEqual(share(state, owners, house), wanted)

    def test_each_house_counts_once(self):
        state = held(("a", "b", 5), ("c", "b", 8))
        self.assertEqual(share(state, ["a", "a"], "b"), Part(1, 4))
        self.assertEqual(share(state, ["c", "a", "c", "a", "c"], "b"), Part(13, 20))

    def test_handed_list_stays(self):
        owners = ["c", "a", "c"]
        share(held(("a", "b", 5)), owners, "b")
        self.assertEqual(owners, ["c", "a", "c"])

    def test_split_leaves_the_part(self):
        self.assertEqual(share(held(("a", "b", 5), more=(("split", 1, "b", 7),)), ["a"], "b"), Part(1, 4))


class Chains(unittest.TestCase):
    def test_from_a_house_to_itself(self):
        for state in (held(), held(("a", "b", 5), ("b", "c", 6))):
            for house in MADE:
                self.assertEqual(chains(state, house, house), [(house,)])
                self.assertEqual(by_chains(state, house, house), Part(1))

    def test_where_there_is_none(self):
        state = held(("a", "b", 5), ("c", "b", 6))
        for top, low in (("b", "a"), ("a", "c"), ("c", "a"), ("b", "c"), ("a", "d"), ("d", "b")):
            self.assertEqual(chains(state, top, low), [])
            self.assertEqual(by_chains(state, top, low), Part(0))

    def test_one_after_the_other(self):
        state = held(("d", "a", 5), ("a", "c", 6), ("c", "b", 3))
        self.assertEqual(chains(state, "d", "b"), [("d", "a", "c", "b")])
        self.assertEqual(by_chains(state, "d", "b"), Part(3, 200))
        self.assertEqual(chains(state, "a", "b"), [("a", "c", "b")])
        self.assertEqual(by_chains(state, "a", "b"), Part(3, 100))

    def test_by_several_ways(self):
        state = held(("e", "d", 10), ("e", "a", 5), ("d", "a", 2), ("d", "c", 3), ("a", "c", 6), ("e", "b", 2),
                     ("c", "b", 4), ("a", "b", 8))
        self.assertEqual(chains(state, "e", "b"), [
            ("e", "a", "b"), ("e", "a", "c", "b"), ("e", "b"), ("e", "d", "a", "b"), ("e", "d", "a", "c", "b"),
            ("e", "d", "c", "b"),
        ])
        by_a, by_d = Part(1, 2), Part(1, 4)
        of_b = (Part(2, 5), Part(1, 5).times(Part(1, 5)))
        wanted = by_a.times(of_b[0]).plus(by_a.times(of_b[1])).plus(Part(1, 10))
        wanted = wanted.plus(by_d.times(Part(1, 5)).times(of_b[0])).plus(by_d.times(Part(1, 5)).times(of_b[1]))
        wanted = wanted.plus(by_d.times(Part(1, 10)).times(Part(1, 5)))
        self.assertEqual(by_chains(state, "e", "b"), wanted)

    def test_shares_that_are_all_given_away_make_no_chain(self):
        state = held(("a", "b", 5), ("b", "c", 6), more=(("sell", 1, "b", "@c", 6, "x", 1),))
        self.assertEqual((chains(state, "a", "c"), by_chains(state, "a", "c")), ([], Part(0)))

    def test_eight_houses_that_hold_all_behind_them(self):
        names = ["a", "b", "c", "d", "e", "f", "g", "h"]
        rows = enumerate(itertools.combinations(names, 2), 1)
        deeds = [(number, ("get", 0, top, "@" + low, 1, "x", 0)) for number, (top, low) in rows]
        state = play(World([("x", 1)], [(name, 7) for name in names]), deeds, 0)
        told = chains(state, "a", "h")
        self.assertEqual((len(told), told[0], told[-1]), (64, tuple(names), ("a", "h")))
        self.assertEqual(by_chains(state, "a", "h"), Part(8 ** 6, 7 ** 7))

    def test_told_list_is_the_askers_own(self):
        state = held(("a", "b", 5))
        told = chains(state, "a", "b")
        self.assertEqual([type(told), type(told[0])], [list, tuple])
        told.clear()
        self.assertEqual(chains(state, "a", "b"), [("a", "b")])


class ThrownStates(unittest.TestCase):
    def states(self):
        return [play(thrown_world(), walkable_rows(seed), 4) for seed in range(60)]

    def test_chains_among_all_rows_of_houses(self):
        names = ("a", "b", "c", "d")
        every = [row for many in range(1, 5) for row in itertools.permutations(names, many)]
        for state in self.states():
            for top in names:
                for low in names:
                    wanted = [row for row in every if (row[0], row[-1]) == (top, low)
                              and all(state.many(one, "@" + other) > 0 for one, other in zip(row, row[1:]))]
                    self.assertEqual(chains(state, top, low), sorted(wanted))

    def test_what_one_holds_by_chains_is_what_those_it_holds_of_hold(self):
        names = ("a", "b", "c", "d")
        for state in self.states():
            for top in names:
                for low in names:
                    wanted = Part(1 if top == low else 0)
                    for middle in names:
                        if middle != top:
                            wanted = wanted.plus(share(state, [top], middle).times(by_chains(state, middle, low)))
                    self.assertEqual(by_chains(state, top, low), wanted)

    def test_ruled_houses_are_closed_and_in_order(self):
        names = ("a", "b", "c", "d")
        for state in self.states():
            for head in names:
                told = ruled(state, head)
                self.assertEqual(told[0], (head, 0))
                for at in range(1, len(told) + 1):
                    ahead = [house for house, _ in told[:at]]
                    votes = {house: sum(state.many(owner, "@" + house) for owner in ahead) for house in names}
                    coming = [house for house in names if house not in ahead and votes[house] * 2 > state.made(house)]
                    wanted = [(house, votes[house]) for house in coming[:1]]
                    self.assertEqual(told[at:at + 1], wanted)


if __name__ == "__main__":
    unittest.main()
