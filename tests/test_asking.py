"""Point 2, for all functions of the stages 3 to 9: how they are asked, and whose the answers are."""

import copy
import importlib
import inspect
import itertools
import unittest

from skyprices.errors import SkyError
from skyprices.houses import told_otherwise
from skyprices.kept import best_plan, lost_paper
from skyprices.prices import prices
from skyprices.texts import show_day
from skyprices.ways import bars_for
from tests.samples import places_in, running_day

# For each function of the interface: its file, and the names of its arguments, those behind the star last.
INTERFACE = {
    "can_have": ("ways", "day numbers * rests"),
    "plan_for": ("ways", "day numbers * rests"),
    "bars_for": ("ways", "day numbers * rests"),
    "bars": ("ways", "day numbers places * rests"),
    "kept": ("kept", "day"),
    "rests": ("kept", "day"),
    "rented": ("kept", "day"),
    "gain": ("kept", "day"),
    "best_plan": ("kept", "day"),
    "lost_paper": ("kept", "day number"),
    "places_of": ("prices", "day"),
    "price_of": ("prices", "day place"),
    "prices": ("prices", "day"),
    "shows_best": ("prices", "day plan dict_of_prices"),
    "block_prices": ("houses", "day"),
    "told_otherwise": ("houses", "day number worth"),
    "bills": ("houses", "day"),
    "broken": ("changes", "day dish hour"),
    "goes_by": ("changes", "day dish hour"),
    "falls": ("changes", "day"),
    "told_anew": ("changes", "day block"),
    "puts_out": ("changes", "day block"),
    "show_day": ("texts", "day"),
    "read_day": ("texts", "text"),
}


def function(name):
    return getattr(importlib.import_module("skyprices." + INTERFACE[name][0]), name)


def own_day():
    """The running day with a seventh block; some of its blocks are lost."""
    day = running_day()
    day[4].append((2, 0, 0, 1, 25))
    return day


def askings():
    """For each function some askings, each a dict of arguments of its own; all, some, lost and refused."""
    day = own_day()
    lost = [{"day": day, "number": number} for number in (5, 6, 0, 99, None)]
    having = [
        {"day": day, "numbers": numbers, "rests": resting}
        for numbers in ([], [0, 2, 5], list(range(7)), [1, 0])
        for resting in ([], (), [(1, 0), (1, 2)], ((1, 1), (1, 2)), [(0, 0)])
    ]
    places = [bars_for(day, list(range(7))), [], [("store", 0, 0)], None]
    hours = [{"day": day, "dish": dish, "hour": hour} for dish, hour in ((0, 0), (0, 1), (1, 2), (1, 4), (None, 0))]
    blocks = [{"day": day, "block": block} for block in ((0, 0, 0, None, 99), (1, 1, 1, 2, 1), (0, 0, 4, None, 1), [])]
    told = {
        "can_have": having, "plan_for": having, "bars_for": having,
        "bars": [{**one, "places": some} for one in having for some in places],
        "lost_paper": lost,
        "price_of": [{"day": day, "place": place} for place in (("radio", 0, 0), ("dish", 1, 3), ("dish", 9, 9))],
        "shows_best": [
            {"day": day, "plan": plan, "dict_of_prices": some}
            for plan in (best_plan(day), [], None) for some in (prices(day), {}, {("dish", 0, 0): 3})
        ],
        "told_otherwise": [
            {"day": day, "number": number, "worth": worth} for number in (0, 6, 7) for worth in (1, 9999, 0)
        ],
        "broken": hours, "goes_by": hours, "told_anew": blocks, "puts_out": blocks,
        "read_day": [{"text": text} for text in (show_day(day), show_day(day) + "\n", "", None)],
    }
    return [(name, copy.deepcopy(one)) for name in INTERFACE for one in told.get(name, [{"day": day}])] + [
        (name, copy.deepcopy({**told.get(name, [{}])[0], "day": None})) for name in INTERFACE if name != "read_day"
    ]


def answer(name, arguments):
    """What the function tells, or the class of the refusal."""
    try:
        return function(name)(**arguments)
    except SkyError as refusal:
        return type(refusal)


def spoil(thing):
    """Change every list and dict in the thing."""
    for _, part in list(places_in(thing)):
        if isinstance(part, list):
            part.append("spoilt")
            part.reverse()
        if isinstance(part, dict):
            part.clear()


def own_parts(thing):
    """The lists and dicts in the thing."""
    return [part for _, part in places_in(thing) if isinstance(part, (list, dict))]


class InterfaceTest(unittest.TestCase):
    def test_names_star_and_default(self):
        for name, (place, wanted) in INTERFACE.items():
            ahead, _, behind = wanted.partition(" * ")
            found = inspect.signature(function(name)).parameters
            self.assertEqual(list(found), ahead.split() + behind.split(), name)
            for argument, one in found.items():
                star = argument in behind.split()
                self.assertIs(one.kind, one.KEYWORD_ONLY if star else one.POSITIONAL_OR_KEYWORD)
                self.assertEqual(one.default, () if star else inspect.Parameter.empty)

    def test_defined_in_the_file_that_lists_it(self):
        for name, (place, _) in INTERFACE.items():
            self.assertTrue(inspect.isfunction(function(name)))
            self.assertEqual(function(name).__module__, "skyprices." + place)
            self.assertEqual(function(name).__name__, name)

    def test_rests_by_name_alone(self):
        for name in ("can_have", "plan_for", "bars_for"):
            with self.assertRaises(TypeError):
                function(name)(own_day(), [], [])
        with self.assertRaises(TypeError):
            function("bars")(own_day(), [], [], [])


class NamesTest(unittest.TestCase):
    def test_by_names_in_any_order(self):
        for name, arguments in askings():
            told = answer(name, arguments)
            for order in itertools.permutations(arguments):
                self.assertEqual(answer(name, {key: arguments[key] for key in order}), told, (name, order))

    def test_by_places(self):
        for name, arguments in askings():
            told = answer(name, arguments)
            ahead = [arguments[key] for key in INTERFACE[name][1].partition(" * ")[0].split()]
            behind = {"rests": arguments["rests"]} if "rests" in arguments else {}
            try:
                again = function(name)(*ahead, **behind)
            except SkyError as refusal:
                again = type(refusal)
            self.assertEqual(again, told, name)

    def test_rests_left_out(self):
        for name, arguments in askings():
            if arguments.get("rests") == ():
                fewer = {key: arguments[key] for key in arguments if key != "rests"}
                self.assertEqual(answer(name, fewer), answer(name, arguments))


class OwnTest(unittest.TestCase):
    def test_what_is_handed_in_stays(self):
        for name, arguments in askings():
            before = copy.deepcopy(arguments)
            answer(name, arguments)
            self.assertEqual(arguments, before, name)
            for key in arguments:
                self.assertIs(type(arguments[key]), type(before[key]))
            if "dict_of_prices" in arguments:
                self.assertEqual(list(arguments["dict_of_prices"]), list(before["dict_of_prices"]))

    def test_asked_again(self):
        for name, arguments in askings():
            told = answer(name, arguments)
            for _ in range(3):
                self.assertEqual(answer(name, arguments), told, name)
                self.assertEqual(answer(name, copy.deepcopy(arguments)), told, name)
                # Other days between change nothing.
                answer("prices", {"day": running_day()})
                answer("bills", {"day": told_otherwise(own_day(), 0, 1)})

    def test_changing_what_was_told(self):
        for name, arguments in askings():
            wanted = copy.deepcopy(answer(name, arguments))
            for _ in range(3):
                told = answer(name, arguments)
                self.assertEqual(told, wanted, name)
                spoil(told)

    def test_changing_what_was_handed_in(self):
        for name, arguments in askings():
            told = answer(name, arguments)
            wanted = copy.deepcopy(told)
            before = copy.deepcopy(arguments)
            spoil(list(arguments.values()))
            self.assertEqual(told, wanted, name)
            self.assertEqual(answer(name, before), wanted, name)

    def test_a_changed_day_is_asked_anew(self):
        day = own_day()
        first = answer("gain", {"day": day})
        found = answer("block_prices", {"day": day})
        for row in day[2]:
            for heard in row:
                heard.clear()
        self.assertGreater(first, 0)
        self.assertEqual(answer("gain", {"day": day}), 0)
        # With nobody heard, each craft's greatest block would be the one that comes down free.
        self.assertEqual(answer("block_prices", {"day": day}), [100, 100, 70, 70, 70, 100, 100])
        self.assertNotEqual(found, answer("block_prices", {"day": day}))

    def test_no_two_told_are_one(self):
        for name, arguments in askings():
            told = [answer(name, arguments) for _ in range(3)]
            parts = own_parts(told)
            self.assertEqual(len({id(part) for part in parts}), len(parts), name)
            handed = {id(part) for part in own_parts(list(arguments.values()))}
            self.assertFalse(handed & {id(part) for part in parts}, name)

    def test_a_day_told_of_a_day_whose_lists_are_one(self):
        heard = [0]
        row = [heard, heard]
        day = (2, [1], [row, row], [None, None], [(0, 0, 0, None, 3)])
        told = told_otherwise(day, 0, 4)
        self.assertEqual(told, (2, [1], [[[0], [0]], [[0], [0]]], [None, None], [(0, 0, 0, None, 4)]))
        parts = own_parts(told)
        self.assertEqual(len({id(part) for part in parts}), len(parts))

    def test_each_kind_of_answer_is_asked(self):
        kinds = {type(answer(name, arguments)) for name, arguments in askings()}
        self.assertEqual(kinds, {bool, int, str, list, dict, tuple, type(None), type})
        self.assertIsInstance(lost_paper(own_day(), 5), list)


if __name__ == "__main__":
    unittest.main()
