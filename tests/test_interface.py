"""The interface: names, arguments and defaults, each where the document lists it."""

import inspect
import unittest

from oneroof import (
    books, desks, errors, forms, owners, packets, pages, parts, paths, roofs, sheets, stakes, states, steps, words, worlds,
)

CONSTANTS = {
    worlds: {"MOST_DAY": 29, "MOST_DEEDS": 60},
    books: {
        "ROWS": ("money", "owed", "goods", "held", "fund", "gain", "sales", "fees", "paid", "shares", "came"),
    },
    roofs: {"MOST_GIVEN": 30},
}

FUNCTIONS = {
    worlds: {
        "need_house": "(world, name)",
        "need_coin": "(world, name)",
        "need_day": "(day)",
        "need_thing": "(world, thing)",
        "need_deed": "(world, deed)",
    },
    words: {
        "deed_text": "(deed)",
        "read_deed": "(world, line)",
    },
    paths: {
        "inner": "(link, since)",
        "cut": "(path, since)",
        "cost": "(count, path, *, since=None)",
        "fresh": "(count, path, since)",
    },
    states: {
        "play": "(world, deeds, day)",
    },
    owners: {
        "ruled": "(state, head)",
        "share": "(state, owners, house)",
        "chains": "(state, top, low)",
        "by_chains": "(state, top, low)",
    },
    packets: {
        "pack": "(world, deeds, house, day, *, since=0, opening=False)",
        "empty": "(day)",
        "join": "(one, other)",
        "together": "(packets)",
    },
    stakes: {
        "own_worth": "(state, since, house)",
        "worth_of": "(state, since, house)",
        "parts_of": "(state, since, head)",
    },
    steps: {
        "spells": "(world, deeds, head, day)",
        "coming": "(world, deeds, head, house, day)",
    },
    books: {
        "book_of": "(world, deeds, head, day)",
        "differ": "(one, other)",
        "laid": "(rows, moves)",
        "rates": "(world, deeds, day)",
        "told_in": "(purse, by_rates, *, into=None)",
        "earned": "(world, deeds, head, day)",
        "turned": "(world, deeds, head, day)",
    },
    sheets: {
        "money_sheet": "(world, deeds, houses, coin, day)",
        "fits": "(world, deeds, houses, coin, day, *, total, sheet)",
        "thing_sheet": "(world, deeds, head, thing, day)",
    },
    forms: {
        "read_form": "(text)",
        "show_form": "(terms)",
        "form_worth": "(terms, rows)",
    },
    pages: {
        "write_page": "(roof)",
        "read_page": "(text)",
    },
}

CLASSES = {
    parts: {
        "Part": {
            "__init__": "(self, top, low=1)",
            "plus": "(self, other)",
            "minus": "(self, other)",
            "times": "(self, other)",
            "over": "(self, other)",
            "sign": "(self)",
            "__eq__": "(self, other)",
            "__repr__": "(self)",
        },
        "Purse": {
            "__init__": "(self, rows=())",
            "at": "(self, coin)",
            "coins": "(self)",
            "plus": "(self, other)",
            "minus": "(self, other)",
            "times": "(self, part)",
            "worth": "(self, rates)",
            "__eq__": "(self, other)",
            "__len__": "(self)",
            "__repr__": "(self)",
        },
    },
    worlds: {
        "World": {
            "__init__": "(self, coins, houses)",
            "coin_rows": "(self)",
            "house_rows": "(self)",
        },
    },
    states: {
        "State": {
            "purse": "(self, house)",
            "claim": "(self, house, other)",
            "pieces": "(self, house, thing)",
            "many": "(self, house, thing)",
            "made": "(self, house)",
            "free": "(self, house)",
            "rate": "(self, coin)",
        },
    },
    packets: {
        "Packet": {
            "houses": "(self)",
            "since_days": "(self)",
            "money": "(self)",
            "fund": "(self)",
            "gain": "(self)",
            "owed": "(self)",
            "fees": "(self)",
            "paid": "(self)",
            "pieces": "(self)",
            "sales": "(self)",
            "dealings": "(self)",
            "sold": "(self)",
            "rows": "(self)",
            "things": "(self)",
            "__eq__": "(self, other)",
            "__len__": "(self)",
            "__repr__": "(self)",
        },
    },
    steps: {
        "Coming": {
            "surplus": "(self)",
            "step": "(self)",
            "__eq__": "(self, other)",
            "__repr__": "(self)",
        },
    },
    books: {
        "Book": {
            "since_days": "(self)",
            "rows": "(self)",
            "row": "(self, name)",
            "things": "(self)",
            "__eq__": "(self, other)",
            "__len__": "(self)",
            "__repr__": "(self)",
        },
    },
    roofs: {
        "Roof": {
            "__init__": "(self, world)",
            "tell": "(self, deed)",
            "right": "(self, number, deed)",
            "strike": "(self, number)",
            "tell_all": "(self, deeds)",
            "undo": "(self)",
            "redo": "(self)",
            "tellings": "(self)",
            "stands": "(self, *, known=None)",
            "book": "(self, head, day, *, known=None)",
            "give": "(self, head, day)",
            "given": "(self)",
            "moved": "(self, number)",
            "what_if": "(self, deeds, head, day)",
            "twin": "(self)",
            "__eq__": "(self, other)",
            "__len__": "(self)",
            "__repr__": "(self)",
        },
    },
    desks: {
        "Desk": {
            "__init__": "(self, roof)",
            "ask": "(self, line)",
        },
    },
    errors: {
        "BadName": {"__init__": "(self, name)"},
        "BadDay": {"__init__": "(self, day)"},
        "BadNumber": {"__init__": "(self, number)"},
        "BadCount": {"__init__": "(self, count)"},
        "Taken": {"__init__": "(self, name)"},
        "Short": {"__init__": "(self, number)"},
        "Ring": {"__init__": "(self, number, ring)"},
        "BadText": {"__init__": "(self, line)"},
        "NoHouse": {"__init__": "(self, name)"},
        "NoCoin": {"__init__": "(self, name)"},
        "NoRow": {"__init__": "(self, name)"},
        "NoTelling": {"__init__": "(self, number)"},
        "NotRuled": {"__init__": "(self, name)"},
    },
}


class Interface(unittest.TestCase):
    def test_constants(self):
        for module, constants in CONSTANTS.items():
            for name, value in constants.items():
                with self.subTest(name=name):
                    self.assertEqual(getattr(module, name), value)
                    self.assertIs(type(getattr(module, name)), type(value))

    def test_functions_are_defined_in_their_files(self):
        for module, functions in FUNCTIONS.items():
            for name, signature in functions.items():
                with self.subTest(name=name):
                    told = getattr(module, name)
                    self.assertEqual(told.__module__, module.__name__)
                    self.assertEqual(str(inspect.signature(told)), signature)

    def test_classes_define_their_methods_themselves(self):
        for module, classes in CLASSES.items():
            for name, methods in classes.items():
                told = getattr(module, name)
                self.assertEqual(told.__module__, module.__name__)
                for method, signature in methods.items():
                    with self.subTest(name=name, method=method):
                        self.assertIn(method, vars(told))
                        self.assertEqual(str(inspect.signature(vars(told)[method])), signature)


if __name__ == "__main__":
    unittest.main()
