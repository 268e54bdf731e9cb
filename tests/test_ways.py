"""Points 7 and 8: what can be brought together, a plan that brings it, and places that bar it."""

import itertools
import random
import unittest

from skyprices.days import gain_of, is_plan
from skyprices.errors import NoDay, NoNumbers, NoRests, SkyError
from skyprices.ways import bars, bars_for, can_have, plan_for
from tests import brute
from tests.samples import day_of, odd_things, put, running_day, running_plan

ASKING = (
    can_have, plan_for, bars_for,
    lambda day, numbers, **more: bars(day, numbers, [], **more),
    lambda day, numbers, **more: bars(day, numbers, None, **more),
)


def rest_lists(day, chance):
    """Some lists of rests of the day: none, all, each alone, and some at random."""
    hours = brute.dish_hours(day)
    some = [[hour for hour in hours if chance.random() < 0.5] for _ in range(3)]
    return [[], hours] + [[hour] for hour in hours] + some


def each_asking(many, seed, **more):
    """Days with each list of their blocks and some lists of rests."""
    chance = random.Random(seed)
    for day in brute.small_days(many, seed, **more):
        having = brute.Having(day)
        for rests in rest_lists(day, chance):
            for numbers in brute.subsets(range(len(day[4]))):
                yield day, numbers, rests, having.can(numbers, rests)


class HavingTest(unittest.TestCase):
    """Point 7."""

    def test_against_all_plans(self):
        seen = {True: 0, False: 0}
        for day, numbers, rests, wanted in each_asking(250, 71):
            self.assertIs(can_have(day, numbers, rests=rests), wanted, (day, numbers, rests))
            plan = plan_for(day, numbers, rests=rests)
            self.assertIs(plan is not None, wanted, (day, numbers, rests))
            if wanted:
                self.assertIs(is_plan(day, plan), True, (day, numbers, plan))
                self.assertEqual(sorted(one[3] for one in plan), numbers)
                self.assertFalse({(one[1], one[0]) for one in plan} & set(rests), (day, plan, rests))
            seen[wanted] += 1
        self.assertGreater(min(seen.values()), 1000)

    def test_each_list_of_rests(self):
        for day in brute.small_days(60, 72, blocks=3, asks=(None, 0, 5)):
            having = brute.Having(day)
            for rests in brute.subsets(brute.dish_hours(day)):
                for numbers in brute.subsets(range(len(day[4]))):
                    self.assertIs(can_have(day, numbers, rests=rests), having.can(numbers, rests))

    def test_rests_left_out_and_of_both_kinds(self):
        for day, numbers, rests, wanted in each_asking(40, 73):
            self.assertIs(can_have(day, numbers, rests=tuple(rests)), wanted)
            self.assertEqual(
                plan_for(day, numbers, rests=tuple(rests)), plan_for(day, numbers, rests=rests)
            )
            self.assertEqual(bars_for(day, numbers, rests=tuple(rests)), bars_for(day, numbers, rests=rests))
            for asking in (can_have, plan_for, bars_for):
                told = asking(day, numbers)
                self.assertEqual(asking(day, numbers, rests=[]), told)
                self.assertEqual(asking(day, numbers, rests=()), told)

    def test_ordinary(self):
        self.assertIs(can_have(running_day(), [0, 1, 2, 3, 4, 5]), True)
        self.assertIs(can_have(running_day(), [0, 1, 2, 3, 4, 5], rests=[(1, 0)]), True)
        self.assertIs(can_have(running_day(), [0, 1, 2, 3, 4, 5], rests=[(1, 1)]), False)
        self.assertIs(can_have(running_day(), [0, 1, 2], rests=[(1, 1), (1, 2), (1, 3)]), True)
        self.assertEqual(plan_for(running_day(), [5]), [(0, 0, 0, 5)])
        self.assertIsNone(plan_for(running_day(), [0, 1, 2, 3, 4, 5], rests=[(1, 1)]))

    def test_no_block_at_all(self):
        for day in (running_day(), (1, [0], [[[]]], [None], []), (1, [0], [[[]]], [0], [])):
            self.assertIs(can_have(day, []), True)
            self.assertEqual(plan_for(day, []), [])
            self.assertIsNone(bars_for(day, []))

    def test_all_rests_and_no_block(self):
        day = put(day_of(hours=3, dishes=3), (3,), [0, 999, 4])
        rests = brute.dish_hours(day)
        self.assertEqual(len(rests), 9)
        self.assertEqual(plan_for(day, [], rests=rests), [])
        self.assertIsNone(bars_for(day, [], rests=rests))

    def test_store_just_full_and_one_beyond(self):
        for store in range(6):
            day = (7, [store], [[[0]] * 7], [None], [(0, 0, 0, None, 1)] * 8)
            for many in range(9):
                # One is sent at once, what the store holds later.
                self.assertIs(can_have(day, list(range(many))), many <= store + 1)

    def test_one_radio_and_many_dishes(self):
        day = day_of(hours=1, dishes=3, blocks=[(0, 0, 0, None, 1), (0, 0, 0, 0, 1)])
        self.assertIs(can_have(day, [0]), True)
        self.assertIs(can_have(day, [1]), True)
        self.assertIs(can_have(day, [0, 1]), False)

    def test_numbers_by_place_and_not_by_worth(self):
        day = day_of(hours=1, craft=2, blocks=[(0, 0, 0, None, 1), (0, 1, 0, 0, 9999)])
        self.assertEqual(plan_for(day, [0]), [(0, 0, 0, 0)])
        self.assertEqual(plan_for(day, [1]), [(0, 0, 1, 1)])


class BarringTest(unittest.TestCase):
    """Point 8."""

    def test_told_just_where_they_can_not_be_had(self):
        seen = {"store": 0, "radio": 0, "dish": 0, None: 0}
        for day, numbers, rests, wanted in each_asking(250, 81):
            places = bars_for(day, numbers, rests=rests)
            self.assertIs(places is None, wanted, (day, numbers, rests))
            if places is None:
                seen[None] += 1
                continue
            self.assertIs(brute.may_bar(day, places), True, (day, places))
            self.assertIs(brute.bars_by_count(day, numbers, rests, places), True, (day, numbers, rests, places))
            self.assertIs(bars(day, numbers, places, rests=rests), True)
            self.assertIs(bars(day, numbers, places, rests=tuple(rests)), True)
            for word in {place[0] for place in places}:
                seen[word] += 1
        self.assertGreater(min(seen.values()), 500)

    def test_what_is_told_against_the_count(self):
        """Places at random, most of them closed under store and radio: True as counted, and never of what can be had."""
        chance = random.Random(82)
        seen = {True: 0, False: 0}
        for day, numbers, rests, can in each_asking(60, 82, blocks=4):
            for _ in range(6):
                places = self.places_at_random(day, chance)
                wanted = brute.may_bar(day, places) and brute.bars_by_count(day, numbers, rests, places)
                self.assertIs(bars(day, numbers, places, rests=rests), wanted, (day, numbers, rests, places))
                self.assertFalse(wanted and can)
                seen[wanted] += 1
        self.assertGreater(min(seen.values()), 200)

    def places_at_random(self, day, chance):
        likely = chance.choice((0.3, 0.6, 0.9))
        places = [place for place in brute.places_of_day(day) if chance.random() < likely]
        if chance.random() < 0.9:
            return [
                place for place in places if place[0] != "store" or ("radio",) + place[1:] in places
            ]
        return places

    def test_each_list_of_places_of_a_small_day(self):
        day = (2, [1], [[[0], [0]]], [3], [(0, 0, 0, None, 5), (0, 0, 0, 1, 5), (0, 0, 1, None, 5)])
        for numbers in brute.subsets(range(3)):
            for rests in brute.subsets(brute.dish_hours(day)):
                told = False
                for places in brute.subsets(brute.places_of_day(day)):
                    wanted = brute.may_bar(day, places) and brute.bars_by_count(day, numbers, rests, places)
                    self.assertIs(bars(day, numbers, places, rests=rests), wanted, (numbers, rests, places))
                    told = told or wanted
                self.assertIs(told, not can_have(day, numbers, rests=rests))


class ShutTest(unittest.TestCase):
    """By how much places are shut: each part of the sum alone, at its edges."""

    def shut(self, day, numbers, places, many, rests=()):
        """The places, in which all of the numbers and rests lie, are shut by many."""
        self.assertEqual(len(numbers) + len(rests), many + 1)
        self.assertIs(bars(day, numbers, places, rests=rests), True)
        if numbers:
            self.assertIs(bars(day, numbers[1:], places, rests=rests), False)
        if rests:
            self.assertIs(bars(day, numbers, places, rests=rests[1:]), False)

    def test_stores(self):
        for store in range(6):
            day = (2, [store], [[[0]] * 2], [None], [(0, 0, 0, None, 1)] * 8)
            places = [("dish", 0, 0), ("radio", 0, 0), ("store", 0, 0)]
            self.shut(day, list(range(store + 2)), places, store + 1)

    def test_the_last_hour_and_a_store_that_is_in_it(self):
        day = (2, [5], [[[0]] * 2], [None], [(0, 0, 1, None, 1), (0, 0, 1, None, 1), (0, 0, 0, None, 1)])
        self.shut(day, [0, 1], [("dish", 0, 1), ("radio", 0, 1), ("store", 0, 1)], 1)
        places = [(word, 0, hour) for word in ("dish", "radio", "store") for hour in (0, 1)]
        self.shut(day, [0, 1, 2], places, 2)

    def test_radios(self):
        day = (1, [0], [[[0]], [[0]], [[]]], [None, None, None], [(0, 0, 0, None, 1), (0, 0, 0, 0, 1)])
        for inside in ([], [("dish", 0, 0)], [("dish", 1, 0)]):
            places = inside + [("radio", 0, 0), ("store", 0, 0)]
            self.assertIs(bars(day, [0, 1], places), not inside)
        # With both dishes that may hear it in the list the radio counts for nothing, the dishes for one each.
        places = [("dish", 0, 0), ("dish", 1, 0), ("radio", 0, 0), ("store", 0, 0)]
        self.assertIs(bars(day, [0, 1], places), False)
        three = put(day, (4,), day[4] + [(0, 0, 0, 0, 1)])
        self.shut(three, [0, 1, 2], places, 2)

    def test_a_radio_that_no_dish_may_hear(self):
        day = (1, [3], [[[]]], [None], [(0, 0, 0, None, 1), (0, 0, 0, 0, 1)])
        self.shut(day, [0], [("radio", 0, 0), ("store", 0, 0)], 0)
        self.shut(day, [1], [("radio", 0, 0)], 0)
        self.assertIs(bars(day, [0], [("radio", 0, 0)]), False)

    def test_dishes_that_hear_nobody(self):
        day = (1, [0], [[[0]], [[]]], [4, 5], [(0, 0, 0, None, 1)])
        self.shut(day, [0], [("dish", 0, 0), ("radio", 0, 0), ("store", 0, 0)], 1, rests=[(0, 0)])
        self.assertIs(bars(day, [0], [("dish", 1, 0)], rests=[(1, 0)]), False)

    def test_a_block_that_goes_up_lies_in_all_its_hours(self):
        day = (3, [0], [[[], [], [0]]], [None], [(0, 0, 0, 1, 1)])
        self.assertIs(bars(day, [0], [("radio", 0, 0), ("radio", 0, 1)]), True)
        self.assertIs(bars(day, [0], [("radio", 0, 0)]), False)
        self.assertIs(bars(day, [0], [("radio", 0, 1)]), False)
        self.assertIs(bars(day, [0], [("radio", 0, 0), ("radio", 0, 1), ("radio", 0, 2)]), False)


class NoBarTest(unittest.TestCase):
    """What is no list of places of the day, with each store its radio, bars nothing."""

    day = (2, [0, 0], [[[0], []], [[], [0]]], [None, 5], [(0, 0, 0, None, 9), (0, 0, 0, None, 9), (0, 0, 1, 1, 9)])
    places = [("dish", 0, 0), ("radio", 0, 0), ("store", 0, 0)]

    def no_bar(self, thing):
        for numbers in ([0, 1], [0, 1, 2], [0], []):
            for rests in ((), [(1, 0)], [(1, 0), (1, 1)]):
                self.assertIs(bars(self.day, numbers, thing, rests=rests), False, thing)

    def test_these_bar(self):
        self.assertIs(bars(self.day, [0, 1], self.places), True)
        self.assertIs(bars(self.day, [0], self.places), False)

    def test_nothing_in_it(self):
        self.no_bar([])

    def test_no_list(self):
        self.no_bar(tuple(self.places))
        self.no_bar({place: 1 for place in self.places})
        self.no_bar(set(self.places))
        for thing in odd_things():
            self.no_bar(thing)

    def test_not_rising(self):
        for order in itertools.permutations(self.places):
            self.assertIs(bars(self.day, [0, 1], list(order)), list(order) == self.places)
        for at in range(3):
            self.no_bar(self.places[:at] + [self.places[at]] + self.places[at:])

    def test_a_store_without_its_radio(self):
        self.no_bar([("dish", 0, 0), ("store", 0, 0)])
        self.no_bar([("dish", 0, 0), ("radio", 0, 1), ("store", 0, 0)])
        self.no_bar([("dish", 0, 0), ("radio", 1, 0), ("store", 0, 0)])
        self.no_bar([("store", 0, 0)])

    def test_no_place_of_the_day(self):
        wrong = [
            ("dish", 2, 0), ("dish", 0, 2), ("dish", -1, 0), ("dish", 0, -1), ("radio", 2, 0), ("store", 2, 0),
            ("store", 0, 2), ("store", 0, -1), ("radio", 0, 2), ("radio", 0, 10**14), ("beam", 0, 0), ("", 0, 0),
            ("Dish", 0, 0), ("dish ", 0, 0), ("dishes", 0, 0), ("ground",), ("block", 0, 0), ("rest", 1, 0),
            ("dish", 0), ("dish", 0, 0, 0), (), ("dish", False, 0), ("dish", 0, False), ("dish", "0", 0),
            ("dish", None, 0), ("dish", 0, [0]), (0, 0, 0), (None, 0, 0), (["dish"], 0, 0), (b"dish", 0, 0),
            ["dish", 0, 0], "dish", None, 0, {"dish": 0},
        ]
        for place in wrong:
            with self.subTest(place=place):
                self.no_bar([place])
                for at in range(4):
                    self.no_bar(self.places[:at] + [place] + self.places[at:])
                for at in range(3):
                    self.no_bar(self.places[:at] + [place] + self.places[at + 1:])

    def test_a_dish_of_a_greater_day(self):
        greater = put(self.day, (2,), self.day[2] + [[[], []]])
        greater = put(greater, (3,), [None, 5, None])
        places = self.places[:1] + [("dish", 2, 0)] + self.places[1:]
        self.no_bar(places)
        self.assertIs(bars(greater, [0, 1], places), False)
        self.assertIs(bars(greater, [0, 1], self.places), True)


class RefusalTest(unittest.TestCase):
    def refused(self, kind, day, numbers, **more):
        for asking in ASKING:
            with self.assertRaises(SkyError) as caught:
                asking(day, numbers, **more)
            self.assertIs(type(caught.exception), kind, (day, numbers, more))
            self.assertIsInstance(caught.exception, ValueError)

    def test_no_day(self):
        for thing in odd_things() + [day_of(hours=11), list(running_day())]:
            for numbers in ([], [0], [9], None):
                for rests in ((), [(1, 0)], [(0, 0)], None):
                    self.refused(NoDay, thing, numbers, rests=rests)

    def test_no_numbers(self):
        wrong = [
            [1, 0], [0, 0], [0, 1, 1], [6], [0, 6], [-1], [-1, 0], [10**14], [True], [False], [0, True], [None],
            ["0"], [[0]], [(0,)], [0, None], [None, 0], (), (0,), (0, 1), {}, {0: 1}, {0}, range(2), "0", None, 0,
        ]
        for numbers in wrong + [thing for thing in odd_things() if thing not in ([], [0])]:
            for rests in ((), [(1, 0)], [(0, 0)], [(9, 9)], None):
                self.refused(NoNumbers, running_day(), numbers, rests=rests)
        self.refused(NoNumbers, day_of(), [0])

    def test_no_rests(self):
        wrong = [
            [(0, 0)], [(0, 0), (1, 0)], [(1, 0), (2, 0)], [(2, 0)], [(-1, 0)], [(1, 4)], [(1, -1)], [(1, 10**14)],
            [(1, 1), (1, 0)], [(1, 0), (1, 0)], [(True, 0)], [(1, False)], [(1, True)], [[1, 0]], [(1,)],
            [(1, 0, 0)], [()], [(1, None)], [("1", 0)], [(1, [0])], [None], [1], ["10"], [(1, 0), None],
            [None, (1, 0)], {}, {(1, 0): 1}, {(1, 0)}, "", "10", None, 0, True, 1, ((0, 0),), ([1, 0],),
            ((1, 1), (1, 0)), ((1, 4),), (None,), (1, 0),
        ]
        for rests in wrong + [thing for thing in odd_things() if thing not in ([], ())]:
            for numbers in ([], [0], [0, 1, 2, 3, 4, 5]):
                with self.subTest(rests=rests):
                    self.refused(NoRests, running_day(), numbers, rests=rests)

    def test_numbers_ahead_of_places(self):
        with self.assertRaises(NoNumbers):
            bars(running_day(), (), None)
        with self.assertRaises(NoRests):
            bars(running_day(), [], None, rests=None)

    def test_edges_that_are_none(self):
        self.assertIs(can_have(running_day(), [5]), True)
        self.assertIs(can_have(running_day(), [], rests=[(1, 0), (1, 3)]), True)


class AgreeTest(unittest.TestCase):
    def test_the_plan_of_all_kept(self):
        plan = plan_for(running_day(), [0, 1, 2, 3, 4, 5])
        self.assertEqual(gain_of(running_day(), plan), gain_of(running_day(), running_plan()))


if __name__ == "__main__":
    unittest.main()
