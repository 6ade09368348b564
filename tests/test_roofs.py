"""Points 37 to 43: a roof's tellings, undo and redo, books as known and given out, what if, twins."""

import unittest

from oneroof.books import Book, book_of, differ
from oneroof.errors import BadDay, BadDeed, BadName, BadNumber, Full, NoCoin, NoHouse, Nothing, NoTelling, Ring, Short
from oneroof.parts import Part, Purse
from oneroof.roofs import MOST_GIVEN, Roof
from oneroof.worlds import World
from tests.deeds import HOUSE, misshapen, one_sided, small_world, thrown_world, walkable_rows, wrong_places

HOUSES = ("a", "b", "c", "d")
FUND = ("fund", 1, "a", "x", 100)
GAIN = ("gain", 2, "a", "x", 7)
GET = ("get", 3, "a", "corn", 5, "x", 40)
SELL = ("sell", 4, "a", "corn", 5, "x", 60)
RULE = ("get", 1, "a", "@b", 11, "y", 3)
OWN = ("get", 5, "a", "@a", 1, "x", 1)


def world():
    return World([("x", 1000), ("y", 250)], [("b", 20), ("a", 10), ("d", 40), ("c", 30)])


def purse(**amounts):
    return Purse([(coin, Part(amount)) for coin, amount in amounts.items()])


def fund(amount, day=0):
    return ("fund", day, "a", "x", amount)


def telling(*deeds):
    roof = Roof(world())
    for deed in deeds:
        roof.tell(deed)
    return roof


def money(roof, day=29, **more):
    return roof.book("a", day, **more).row("money").at("x")


def undone(roof):
    """How often something can be done again, looked at on a twin."""
    other, times = roof.twin(), 0
    while True:
        try:
            other.redo()
        except Nothing:
            return times
        times += 1


def everything(roof):
    """All that a roof tells, and all that it can do again."""
    found, other = [], roof.twin()
    for _ in range(undone(roof)):
        other.redo()
        found.append(other.tellings())
    return roof.tellings(), roof.stands(), roof.given(), found


class AlwaysEqual:
    def __eq__(self, other):
        return True


class Refusing(unittest.TestCase):
    def refused(self, error, fields, roof, asked, *more, **named):
        """Refused, and everything stays as it was."""
        before = everything(roof)
        with self.subTest(asked=asked, more=more):
            with self.assertRaises(error) as caught:
                getattr(roof, asked)(*more, **named)
            self.assertIs(type(caught.exception), error)
            self.assertEqual(vars(caught.exception), fields)
            self.assertEqual(everything(roof), before)


class Telling(Refusing):
    def test_at_first(self):
        ground = world()
        roof = Roof(ground)
        self.assertIs(roof.world, ground)
        self.assertEqual((roof.tellings(), roof.stands(), roof.given(), len(roof)), ([], [], [], 0))
        self.assertEqual(roof.book("a", 3), book_of(world(), [], "a", 3))

    def test_deeds_get_the_next_number(self):
        roof = Roof(world())
        self.assertEqual(roof.tell(GET), 1)
        self.assertEqual([roof.tell(deed) for deed in (SELL, FUND, FUND)], [2, 3, 4])
        self.assertEqual(roof.stands(), [(1, GET), (2, SELL), (3, FUND), (4, FUND)])
        self.assertEqual(roof.tellings(), [("tell", GET), ("tell", SELL), ("tell", FUND), ("tell", FUND)])

    def test_put_right_and_struck(self):
        roof = telling(FUND, GAIN, GET)
        self.assertIsNone(roof.right(2, fund(5)))
        self.assertEqual(roof.stands(), [(1, FUND), (2, fund(5)), (3, GET)])
        self.assertIsNone(roof.strike(1))
        self.assertEqual(roof.stands(), [(2, fund(5)), (3, GET)])
        roof.right(2, SELL[:3] + ("corn", 4, "y", 1))
        self.assertEqual(roof.stands(), [(2, ("sell", 4, "a", "corn", 4, "y", 1)), (3, GET)])
        self.assertEqual(roof.tellings(), [("tell", FUND), ("tell", GAIN), ("tell", GET), ("right", 2, fund(5)), ("strike", 1),
                                           ("right", 2, ("sell", 4, "a", "corn", 4, "y", 1))])
        self.assertEqual(roof.book("a", 29), book_of(world(), roof.stands(), "a", 29))

    def test_struck_numbers_are_not_given_again(self):
        roof = telling(FUND, GAIN)
        roof.strike(2)
        self.assertEqual(roof.tell(GET), 3)
        roof.strike(1)
        roof.right(3, FUND)
        self.assertEqual(roof.tell(GET), 4)
        self.assertEqual(roof.stands(), [(3, FUND), (4, GET)])

    def test_numbers_behind_undo(self):
        roof = telling(FUND, GAIN, GET)
        roof.undo()
        self.assertEqual(roof.tell(fund(9)), 3)
        roof.strike(3)
        roof.undo()
        self.assertEqual(roof.tell(fund(8)), 4)
        for _ in range(4):
            roof.undo()
        self.assertEqual(roof.tell(fund(7)), 1)

    def test_what_must_keep_the_walk(self):
        roof = telling(GET, SELL)
        self.refused(Short, {"number": 2}, roof, "strike", 1)
        self.refused(Short, {"number": 2}, roof, "right", 1, ("get", 3, "a", "corn", 4, "x", 40))
        self.refused(Short, {"number": 2}, roof, "right", 1, ("get", 5, "a", "corn", 5, "x", 40))
        self.refused(Short, {"number": 2}, roof, "right", 2, ("sell", 4, "a", "corn", 6, "x", 60))
        self.refused(Short, {"number": 3}, roof, "tell", ("sell", 29, "a", "corn", 1, "x", 60))
        # Told late for an earlier day: the deed that stood before is the one that falls short.
        self.refused(Short, {"number": 2}, roof, "tell", ("sell", 3, "a", "corn", 1, "x", 60))
        roof.tell(RULE)
        self.refused(Ring, {"number": 4, "ring": ["a"]}, roof, "tell", OWN)
        self.refused(Ring, {"number": 4, "ring": ["b", "a"]}, roof, "tell", ("get", 29, "b", "@a", 1, "x", 1))
        self.refused(Ring, {"number": 3, "ring": ["a", "b"]}, roof, "tell", ("get", 0, "b", "@a", 1, "x", 1))

    def test_first_refusal_of_the_walk(self):
        roof = telling(GET, ("get", 0, "a", "@b", 2, "x", 1), SELL, ("hand", 2, "a", "c", "@b", 2, "x", 1))
        self.refused(Short, {"number": 4}, roof, "right", 2, ("get", 5, "a", "@b", 2, "x", 1))
        self.refused(Short, {"number": 4}, roof, "strike", 2)
        self.refused(Short, {"number": 3}, roof, "strike", 1)

    def test_a_walk_that_holds_only_once_a_deed_is_put_right(self):
        roof = telling(GET)
        self.refused(Short, {"number": 2}, roof, "tell", ("sell", 4, "a", "corn", 8, "x", 60))
        roof.right(1, ("get", 3, "a", "corn", 8, "x", 40))
        self.assertEqual(roof.tell(("sell", 4, "a", "corn", 8, "x", 60)), 2)
        roof.strike(2)
        roof.strike(1)
        self.assertEqual(roof.stands(), [])

    def test_what_is_handed_in_stays_and_told_lists_are_the_askers_own(self):
        deeds = [FUND, GAIN]
        roof = Roof(world())
        roof.tell_all(deeds)
        deeds.clear()
        roof.what_if(deeds, "a", 3)
        roof.give("a", 3)
        before = everything(roof)
        for told in (roof.tellings(), roof.stands(), roof.given()):
            self.assertIsInstance(told, list)
            self.assertGreater(len(told), 0)
            told.clear()
        self.assertEqual({type(row) for row in roof.tellings() + roof.stands()}, {tuple})
        self.assertEqual(everything(roof), before)
        self.assertEqual(roof.stands(), [(1, FUND), (2, GAIN)])


class Refusals(Refusing):
    def test_no_deed_with_that_number(self):
        roof = telling(FUND, GAIN)
        roof.strike(1)
        for number in (1, 3, 0, -1, -2, 1000, 10 ** 30):
            self.refused(NoTelling, {"number": number}, roof, "strike", number)
            self.refused(NoTelling, {"number": number}, roof, "right", number, FUND)
        roof.undo()
        roof.undo()
        self.refused(NoTelling, {"number": 2}, roof, "strike", 2)
        self.refused(NoTelling, {"number": 1}, Roof(world()), "right", 1, FUND)

    def test_wrong_deeds(self):
        roof = Roof(small_world())
        roof.tell(("fund", 3, "a", "x", 500))
        for deed, error, fields in wrong_places():
            self.refused(error, fields, roof, "tell", deed)
            self.refused(error, fields, roof, "right", 1, deed)
            self.refused(error, fields, roof, "tell_all", [deed])
        for deed in misshapen() + one_sided():
            self.refused(BadDeed, {}, roof, "tell", deed)
            self.refused(BadDeed, {}, roof, "right", 1, deed)

    def test_number_then_deed_then_full_then_walk(self):
        roof = telling(GET, SELL)
        wrong, short = ("fund", 30, "e", "z", 0), ("sell", 29, "a", "corn", 9, "x", 1)
        self.refused(NoTelling, {"number": 3}, roof, "right", 3, wrong)
        self.refused(BadDay, {"day": 30}, roof, "right", 1, wrong)
        for _ in range(58):
            roof.tell(fund(1))
        self.refused(NoTelling, {"number": 61}, roof, "right", 61, wrong)
        self.refused(NoTelling, {"number": 61}, roof, "strike", 61)
        self.refused(BadDay, {"day": 30}, roof, "right", 1, wrong)
        self.refused(BadDay, {"day": 30}, roof, "tell", wrong)
        for asked in (("tell", short), ("right", 1, short), ("strike", 1), ("tell", FUND), ("right", 5, FUND), ("strike", 5)):
            self.refused(Full, {}, roof, *asked)

    def test_sixty_tellings_and_one_more(self):
        roof = Roof(world())
        for at in range(20):
            self.assertEqual(roof.tell(fund(at + 1)), at + 1)
        for number in range(1, 21):
            roof.right(number, fund(100 + number))
        for number in range(1, 21):
            roof.strike(number)
        self.assertEqual((len(roof.tellings()), roof.stands()), (60, []))
        self.refused(Full, {}, roof, "tell", FUND)
        roof.undo()
        self.assertEqual(roof.stands(), [(20, fund(120))])
        # What was taken back does not count.
        self.assertEqual(roof.tell(FUND), 21)
        self.refused(Full, {}, roof, "tell", FUND)
        self.refused(Full, {}, roof, "tell_all", [FUND])
        self.assertEqual(roof.tell_all([]), [])


class Several(Refusing):
    def test_one_after_the_other_with_their_numbers(self):
        roof = telling(FUND)
        self.assertEqual(roof.tell_all([GET, SELL, GAIN]), [2, 3, 4])
        self.assertEqual(roof.tellings(), [("tell", FUND), ("tell", GET), ("tell", SELL), ("tell", GAIN)])
        self.assertEqual(roof, telling(FUND, GET, SELL, GAIN))
        # Each is a telling of its own.
        roof.undo()
        self.assertEqual(roof.stands(), [(1, FUND), (2, GET), (3, SELL)])

    def test_none_where_one_in_the_middle_is_refused(self):
        roof = telling(FUND, GAIN, fund(3))
        roof.undo()
        roof.undo()
        for deeds, error, fields in (
            ([GET, ("fund", 30, "a", "x", 1), SELL], BadDay, {"day": 30}),
            ([GET, ("sell", 4, "a", "corn", 6, "x", 1), FUND], Short, {"number": 3}),
            ([GET, OWN, SELL], Ring, {"number": 3, "ring": ["a"]}),
            ([("nothing", 1), OWN], BadDeed, {}),
            ([GET, SELL, ("get", 1, "a", "C", 1, "x", 1)], BadName, {"name": "C"}),
            ([GET, ("fund", 1, "a", "z", 1)], NoCoin, {"name": "z"}),
            ([("fund", 1, "a", "x", 0), GET], BadNumber, {"number": 0}),
        ):
            self.refused(error, fields, roof, "tell_all", deeds)
        self.assertEqual(undone(roof), 2)
        roof.redo()
        roof.redo()
        self.assertEqual(roof.stands(), [(1, FUND), (2, GAIN), (3, fund(3))])

    def test_each_one_must_keep_the_walk_by_itself(self):
        roof = Roof(world())
        # The get would help, but it is told behind the sell.
        self.refused(Short, {"number": 1}, roof, "tell_all", [SELL, GET])
        self.assertEqual(roof.tell_all([GET, SELL]), [1, 2])

    def test_full_in_the_middle(self):
        roof = telling(*[fund(1)] * 58)
        self.refused(Full, {}, roof, "tell_all", [FUND, FUND, FUND])
        self.refused(BadDay, {"day": 30}, roof, "tell_all", [FUND, FUND, ("fund", 30, "a", "x", 1)])
        self.refused(Full, {}, roof, "tell_all", [FUND, FUND, FUND, ("fund", 30, "a", "x", 1)])
        self.assertEqual(roof.tell_all([FUND, FUND]), [59, 60])

    def test_empty_list_forgets_nothing(self):
        roof = telling(FUND, GAIN)
        roof.undo()
        before = everything(roof)
        self.assertEqual(roof.tell_all([]), [])
        self.assertEqual(everything(roof), before)
        roof.redo()
        self.assertEqual(roof.stands(), [(1, FUND), (2, GAIN)])


class UndoAndRedo(Refusing):
    def test_to_their_ends_and_nothing(self):
        roof = telling(FUND, GAIN)
        roof.right(1, fund(3))
        roof.strike(2)
        known = [roof.stands(known=many) for many in range(5)]
        self.refused(Nothing, {}, roof, "redo")
        for many in (3, 2, 1, 0):
            self.assertIsNone(roof.undo())
            self.assertEqual(roof.stands(), known[many])
        self.refused(Nothing, {}, roof, "undo")
        for many in (1, 2, 3, 4):
            self.assertIsNone(roof.redo())
            self.assertEqual(roof.stands(), known[many])
        self.refused(Nothing, {}, roof, "redo")
        for asked in ("undo", "redo"):
            self.refused(Nothing, {}, Roof(world()), asked)

    def test_last_one_taken_back_comes_again_first(self):
        roof = telling(FUND, GAIN, GET)
        roof.undo()
        roof.undo()
        roof.redo()
        self.assertEqual(roof.stands(), [(1, FUND), (2, GAIN)])
        roof.undo()
        roof.redo()
        roof.redo()
        self.assertEqual(roof.stands(), [(1, FUND), (2, GAIN), (3, GET)])

    def test_each_telling_forgets_what_could_be_done_again(self):
        for asked in (("tell", GET), ("right", 1, fund(9)), ("strike", 1), ("tell_all", [GET]), ("tell_all", [GET, SELL])):
            roof = telling(FUND, GAIN, fund(1))
            roof.undo()
            roof.undo()
            self.assertEqual(undone(roof), 2)
            getattr(roof, asked[0])(*asked[1:])
            with self.subTest(asked=asked):
                self.assertEqual(undone(roof), 0)
                self.refused(Nothing, {}, roof, "redo")

    def test_refused_tellings_forget_nothing(self):
        roof = telling(FUND, GAIN)
        roof.undo()
        for asked in (("tell", SELL), ("tell", ()), ("right", 7, FUND), ("right", 1, OWN), ("strike", 2)):
            with self.assertRaises((Short, Ring, BadDeed, NoTelling)):
                getattr(roof, asked[0])(*asked[1:])
            self.assertEqual(undone(roof), 1)

    def test_questions_forget_nothing(self):
        roof = telling(FUND, GAIN)
        roof.undo()
        roof.book("a", 3)
        roof.give("a", 3)
        roof.moved(1)
        roof.what_if([GET], "a", 3)
        roof.stands(known=0)
        self.assertEqual(undone(roof), 1)


class AsKnown(Refusing):
    def roof(self):
        roof = telling(fund(1), fund(2), GET)
        roof.right(1, fund(30))
        roof.strike(2)
        roof.tell(("sell", 4, "a", "corn", 5, "x", 9))
        return roof

    def test_stands_and_books_then(self):
        roof = self.roof()
        wanted = [[], [(1, fund(1))], [(1, fund(1)), (2, fund(2))], [(1, fund(1)), (2, fund(2)), (3, GET)],
                  [(1, fund(30)), (2, fund(2)), (3, GET)], [(1, fund(30)), (3, GET)],
                  [(1, fund(30)), (3, GET), (4, ("sell", 4, "a", "corn", 5, "x", 9))]]
        for many, stands in enumerate(wanted):
            self.assertEqual(roof.stands(known=many), stands)
            for day in (0, 3, 29):
                self.assertEqual(roof.book("a", day, known=many), book_of(world(), stands, "a", day))
        self.assertEqual([money(roof, known=many) for many in range(7)], [Part(n) for n in (0, 1, 3, -37, -8, -10, -1)])

    def test_all_of_them_where_it_is_left_out_or_none(self):
        roof = self.roof()
        self.assertEqual(roof.stands(), roof.stands(known=6))
        self.assertEqual(roof.stands(known=None), roof.stands(known=6))
        self.assertEqual(roof.book("a", 5, known=None), roof.book("a", 5, known=6))
        self.assertEqual(roof.book("a", 5), roof.book("a", 5, known=6))
        self.assertEqual(Roof(world()).stands(known=0), [])

    def test_beyond_those_that_are_kept_and_below_nought(self):
        roof = self.roof()
        roof.undo()
        for known in (6, 7, 1000, -1, -6):
            self.refused(NoTelling, {"number": known}, roof, "stands", known=known)
            self.refused(NoTelling, {"number": known}, roof, "book", "a", 3, known=known)
        self.assertEqual(len(roof.stands(known=5)), 2)

    def test_houses_then_the_day_then_the_number(self):
        roof = self.roof()
        for fields in [fields for _, _, fields in HOUSE if fields["name"] not in HOUSES]:
            self.refused(NoHouse, fields, roof, "book", fields["name"], 30, known=9)
            self.refused(NoHouse, fields, roof, "book", fields["name"], 3)
        for day in (-1, 30):
            self.refused(BadDay, {"day": day}, roof, "book", "a", day, known=9)
            self.refused(BadDay, {"day": day}, roof, "book", "a", day)


class Given(Refusing):
    def test_numbers_and_books_in_the_order_of_giving(self):
        roof = telling(FUND, GET)
        self.assertEqual([roof.give("a", 3), roof.give("b", 0), roof.give("a", 3)], [1, 2, 3])
        self.assertEqual(roof.given(), [roof.book("a", 3), roof.book("b", 0), roof.book("a", 3)])
        self.assertTrue(all(isinstance(book, Book) for book in roof.given()))

    def test_stay_as_they_were_given_out(self):
        roof = telling(FUND, GET)
        roof.give("a", 3)
        given = roof.book("a", 3)
        for asked in (("tell", GAIN), ("right", 1, fund(1)), ("strike", 1), ("undo",), ("undo",), ("redo",), ("undo",), ("undo",), ("undo",)):
            getattr(roof, asked[0])(*asked[1:])
            self.assertEqual(roof.given(), [given])
        self.assertNotEqual(roof.book("a", 3), given)
        roof.give("a", 3)
        self.assertEqual(roof.given(), [given, roof.book("a", 3)])

    def test_thirty_books_and_one_more(self):
        self.assertEqual(MOST_GIVEN, 30)
        roof = telling(FUND)
        for number in range(1, 31):
            self.assertEqual(roof.give("a", number - 1), number)
        self.refused(Full, {}, roof, "give", "a", 3)
        self.refused(NoHouse, {"name": "e"}, roof, "give", "e", 30)
        self.refused(BadDay, {"day": 30}, roof, "give", "a", 30)
        self.assertEqual([book.day for book in roof.given()], list(range(30)))
        roof.tell(GAIN)
        self.assertEqual(len(roof.given()), 30)

    def test_refusals(self):
        roof = telling(FUND)
        for day in (3, 30):
            self.refused(NoHouse, {"name": "e"}, roof, "give", "e", day)
        for day in (-1, 30):
            self.refused(BadDay, {"day": day}, roof, "give", "a", day)
        self.assertEqual(roof.give("a", 29), 1)

    def test_what_moved_since(self):
        roof = telling(FUND, GET)
        roof.give("a", 3)
        roof.give("a", 1)
        self.assertEqual((roof.moved(1), roof.moved(2)), ([], []))
        before = roof.book("a", 3)
        roof.tell(("gain", 3, "a", "y", 8))
        roof.right(1, fund(30, 3))
        self.assertEqual(roof.moved(1), [("money", purse(x=-70, y=8)), ("fund", purse(x=30)), ("gain", purse(y=8))])
        self.assertEqual(roof.moved(1), differ(before, roof.book("a", 3)))
        self.assertEqual(roof.moved(2), [("money", purse(x=-100)), ("fund", purse(x=-100))])
        roof.undo()
        roof.undo()
        self.assertEqual((roof.moved(1), roof.moved(2)), ([], []))
        roof.undo()
        self.assertEqual(dict(roof.moved(1))["goods"], purse(x=-40))

    def test_numbers_that_were_never_given(self):
        roof = telling(FUND)
        for number in (1, 0, -1):
            self.refused(NoTelling, {"number": number}, roof, "moved", number)
        roof.give("a", 3)
        roof.give("a", 4)
        for number in (3, 0, -1, -2, 1000):
            self.refused(NoTelling, {"number": number}, roof, "moved", number)


class WhatIf(Refusing):
    def test_book_as_it_would_be(self):
        roof = telling(FUND, GAIN, GET)
        roof.undo()
        before = everything(roof)
        found = roof.what_if([GET, SELL], "a", 4)
        self.assertEqual(found, telling(FUND, GAIN, GET, SELL).book("a", 4))
        self.assertEqual(roof.what_if([], "a", 4), roof.book("a", 4))
        self.assertEqual(roof.what_if([RULE], "a", 29).since_days(), {"a": 0, "b": 1})
        self.assertEqual(everything(roof), before)
        roof.redo()
        self.assertEqual(roof.stands(), [(1, FUND), (2, GAIN), (3, GET)])
        roof.undo()
        roof.undo()
        self.assertEqual(undone(roof), 2)

    def test_refused_as_several_at_once_then_as_book(self):
        roof = telling(FUND, GAIN, GET)
        roof.undo()
        self.refused(BadDay, {"day": 31}, roof, "what_if", [GET, ("fund", 31, "a", "x", 1)], "e", 30)
        self.refused(Short, {"number": 3}, roof, "what_if", [SELL, GET], "e", 30)
        self.refused(Ring, {"number": 4, "ring": ["a"]}, roof, "what_if", [GET, OWN], "e", 30)
        self.refused(NoHouse, {"name": "e"}, roof, "what_if", [GET, SELL], "e", 30)
        self.refused(NoHouse, {"name": "e"}, roof, "what_if", [], "e", 30)
        self.refused(BadDay, {"day": 30}, roof, "what_if", [GET, SELL], "a", 30)
        self.refused(BadDay, {"day": -1}, roof, "what_if", [], "a", -1)

    def test_full(self):
        roof = telling(*[fund(1)] * 59)
        self.assertEqual(roof.what_if([fund(5)], "a", 0).row("fund"), purse(x=64))
        self.refused(Full, {}, roof, "what_if", [FUND, FUND], "a", 0)


class Twins(unittest.TestCase):
    def roof(self):
        roof = telling(FUND, GAIN, GET)
        roof.undo()
        roof.give("a", 3)
        return roof

    def test_same_world_tellings_and_given_books(self):
        roof = self.roof()
        twin = roof.twin()
        self.assertIsInstance(twin, Roof)
        self.assertIsNot(twin, roof)
        self.assertEqual(twin, roof)
        self.assertEqual(everything(twin), everything(roof))
        self.assertEqual(undone(twin), 1)
        twin.redo()
        self.assertEqual(twin.stands(), [(1, FUND), (2, GAIN), (3, GET)])

    def test_each_goes_its_own_way(self):
        for asked in (("tell", GET), ("right", 1, fund(9)), ("strike", 1), ("tell_all", [GET, SELL]), ("undo",), ("redo",), ("give", "a", 2)):
            for own in (0, 1):
                both = [self.roof()]
                both.append(both[0].twin())
                before = everything(both[0])
                getattr(both[own], asked[0])(*asked[1:])
                with self.subTest(asked=asked, own=own):
                    self.assertEqual(everything(both[1 - own]), before)
                    self.assertNotEqual(everything(both[own]), before)

    def test_twin_of_a_twin(self):
        roof = self.roof()
        other = roof.twin().twin()
        roof.tell(GET)
        self.assertEqual(everything(other), everything(self.roof()))


class Equality(unittest.TestCase):
    def same(self, one, other, wanted):
        self.assertIs(one == other, wanted)
        self.assertIs(other == one, wanted)
        self.assertIs(one != other, not wanted)

    def test_equal_however_they_came(self):
        self.same(Roof(world()), Roof(world()), True)
        self.same(telling(FUND, GET), telling(FUND, GET), True)
        roof = Roof(world())
        roof.tell_all([FUND, GET])
        self.same(roof, telling(FUND, GET), True)

    def test_worlds_in_each_thing_and_in_order(self):
        coins, houses = [("x", 1000), ("y", 250)], [("a", 10), ("b", 20)]
        one = Roof(World(coins, houses))
        self.same(one, Roof(World(list(coins), list(houses))), True)
        for other in (
            World(coins[::-1], houses), World(coins, houses[::-1]), World(coins[:1], houses), World(coins, houses[:1]),
            World([("x", 1001), ("y", 250)], houses), World(coins, [("a", 10), ("b", 21)]), World([("x", 1000), ("z", 250)], houses),
            World(coins, [("a", 10), ("c", 20)]), World(coins + [("z", 1)], houses), World(coins, houses + [("c", 1)]),
        ):
            self.same(one, Roof(other), False)

    def test_kept_tellings(self):
        one = telling(FUND, GET)
        self.same(one, telling(FUND), False)
        self.same(one, telling(GET, FUND), False)
        self.same(one, telling(FUND, GET[:-1] + (41,)), False)
        # The same deeds stand, but they were told in other words.
        other = telling(GAIN, GET)
        other.right(1, FUND)
        self.assertEqual(other.stands(), one.stands())
        self.same(one, other, False)
        other = telling(FUND, GET, GAIN)
        other.strike(3)
        self.same(one, other, False)

    def test_given_books(self):
        one, other = telling(FUND), telling(FUND)
        one.give("a", 1)
        self.same(one, other, False)
        other.give("a", 2)
        self.same(one, other, False)
        one.give("a", 2)
        other.give("a", 1)
        self.same(one, other, False)
        one, other = telling(FUND), telling(GAIN)
        one.give("a", 3)
        other.give("a", 3)
        other.undo()
        other.tell(FUND)
        self.assertEqual(one.tellings(), other.tellings())
        self.same(one, other, False)
        one, other = telling(FUND), telling(FUND)
        one.give("a", 1)
        other.give("a", 1)
        self.same(one, other, True)

    def test_what_was_taken_back_does_not_count(self):
        one = telling(FUND, GAIN)
        one.undo()
        self.same(one, telling(FUND), True)
        other = telling(FUND, GET)
        other.undo()
        self.same(one, other, True)

    def test_nothing_else(self):
        roof = telling(FUND)
        for other in (None, 0, 1, "Roof(4 houses, 1 tellings)", roof.tellings(), roof.world, AlwaysEqual()):
            self.assertFalse(roof.__eq__(other))
            self.assertTrue(roof.__ne__(other))


class LengthAndShow(unittest.TestCase):
    def test_length_is_how_many_deeds_stand(self):
        roof = telling(FUND, GAIN, GET)
        self.assertEqual(len(roof), 3)
        roof.right(1, fund(1))
        self.assertEqual(len(roof), 3)
        roof.strike(1)
        self.assertEqual(len(roof), 2)
        roof.undo()
        self.assertEqual(len(roof), 3)
        self.assertEqual(len(Roof(world())), 0)

    def test_show(self):
        roof = telling(FUND)
        self.assertEqual(repr(roof), "Roof(4 houses, 1 tellings)")
        roof.strike(1)
        roof.tell(GET)
        self.assertEqual(str(roof), "Roof(4 houses, 3 tellings)")
        roof.undo()
        self.assertEqual(repr(roof), "Roof(4 houses, 2 tellings)")
        self.assertEqual(repr(Roof(World([("x", 1)], [("a", 1)]))), "Roof(1 houses, 0 tellings)")


class ThrownRoofs(unittest.TestCase):
    def test_books_are_those_of_the_deeds_that_stand(self):
        for seed in range(10):
            rows = sorted(walkable_rows(seed))
            roof, told = Roof(thrown_world()), []
            for _, deed in rows:
                try:
                    told.append((roof.tell(deed), deed))
                except (Short, Ring):
                    pass
            self.assertEqual(roof.stands(), told)
            self.assertEqual([number for number, _ in told], list(range(1, len(told) + 1)))
            for head in HOUSES:
                for day in range(6):
                    self.assertEqual(roof.book(head, day), book_of(thrown_world(), told, head, day))


if __name__ == "__main__":
    unittest.main()
