"""Points 12 and 13: prices of all places, and which prices show which plan."""

import itertools
import random
import unittest

from skyprices.errors import NoDay, NoPlace, NoPlan, SkyError
from skyprices.kept import best_plan, gain
from skyprices.prices import places_of, price_of, prices, shows_best
from tests import brute
from tests.demands import DEMANDS, broken_demands
from tests.samples import day_of, odd_things, put, running_day, running_plan


def days():
    return brute.small_days(200, 121) + brute.small_days(200, 122, worths=(1, 2, 2, 3), asks=(None, 0, 1, 2, 2))


class PlacesTest(unittest.TestCase):
    def test_all_places_rising(self):
        self.assertEqual(
            places_of((2, [0, 3], [[[], [0]]], [None], [])),
            [
                ("dish", 0, 0), ("dish", 0, 1), ("radio", 0, 0), ("radio", 0, 1), ("radio", 1, 0), ("radio", 1, 1),
                ("store", 0, 0), ("store", 0, 1), ("store", 1, 0), ("store", 1, 1),
            ],
        )

    def test_of_small_and_full_days(self):
        for day in brute.small_days(30, 123) + brute.full_days(3, 124):
            self.assertEqual(places_of(day), brute.places_of_day(day))
            self.assertEqual(list(prices(day)), brute.places_of_day(day))


class PriceTest(unittest.TestCase):
    """Point 12."""

    def test_by_its_own_words(self):
        seen = {}
        for day in days():
            told = prices(day)
            self.assertEqual(sorted(told), brute.places_of_day(day))
            for place in told:
                wanted = brute.free_gain(day, place)
                self.assertEqual(told[place], wanted, (day, place))
                self.assertIs(type(told[place]), int)
                self.assertEqual(price_of(day, place), wanted)
                seen[place[0], wanted > 0] = seen.get((place[0], wanted > 0), 0) + 1
        self.assertEqual(len(seen), 6)
        self.assertGreater(min(seen.values()), 100, seen)

    def test_a_full_store_and_one_with_room(self):
        blocks = [(0, 0, 0, None, 9), (0, 0, 0, None, 7), (0, 0, 0, None, 4)]
        day = (3, [1], [[[0], [0], [0]]], [None], blocks)
        told = prices(day)
        # One is sent at once and one is kept: a third wants a store, and then there are hours enough.
        self.assertEqual([told["store", 0, hour] for hour in range(3)], [4, 0, 0])
        self.assertEqual([told["radio", 0, hour] for hour in range(3)], [4, 0, 0])
        # The one radio sends at hour 0 already: a second block can't use the dish for free.
        self.assertEqual([told["dish", 0, hour] for hour in range(3)], [0, 0, 0])
        self.assertEqual(set(prices(put(day, (1, 0), 2)).values()), {0})

    def test_a_store_of_none(self):
        day = (2, [0], [[[], [0]]], [None], [(0, 0, 0, None, 9)])
        told = prices(day)
        self.assertEqual((told["store", 0, 0], told["radio", 0, 0], told["dish", 0, 0]), (9, 9, 0))
        self.assertEqual((told["store", 0, 1], told["radio", 0, 1], told["dish", 0, 1]), (0, 0, 0))
        told = prices(put(day, (1, 0), 1))
        self.assertEqual(set(told.values()), {0})

    def test_the_first_and_the_last_hour(self):
        blocks = [(0, 0, 0, None, 9), (0, 0, 2, None, 8), (0, 0, 2, None, 5)]
        day = (3, [3], [[[], [], [0]]], [None], blocks)
        told = prices(day)
        self.assertEqual([told["store", 0, hour] for hour in range(3)], [8, 8, 8])
        self.assertEqual([told["radio", 0, hour] for hour in range(3)], [8, 8, 8])
        self.assertEqual([told["dish", 0, hour] for hour in range(3)], [0, 0, 0])
        day = (3, [3, 0], [[[], [], [0, 1]]], [None], blocks + [(0, 1, 2, None, 4)])
        self.assertEqual([prices(day)["dish", 0, hour] for hour in range(3)], [0, 0, 4])

    def test_what_goes_up_uses_the_radio_alone(self):
        day = (1, [5], [[[0]]], [None], [(0, 0, 0, None, 9), (0, 0, 0, 0, 6)])
        told = prices(day)
        # What goes up can't come down free from the store, but if the other does, it has the radio.
        self.assertEqual((told["store", 0, 0], told["radio", 0, 0], told["dish", 0, 0]), (6, 6, 0))
        day = (1, [5], [[[0]]], [None], [(0, 0, 0, 0, 9), (0, 0, 0, 0, 6)])
        told = prices(day)
        self.assertEqual((told["store", 0, 0], told["radio", 0, 0], told["dish", 0, 0]), (0, 6, 0))

    def test_dishes_of_other_rooms(self):
        two = [(0, 0, 0, None, 9), (0, 1, 0, None, 6)]
        day = (1, [0, 0], [[[0, 1]]], [4], two)
        # The hour is rented for 9; free, one block saves the ask or brings 6.
        self.assertEqual(price_of(day, ("dish", 0, 0)), 6)
        self.assertEqual(price_of(put(day, (4, 1, 4), 3), ("dish", 0, 0)), 4)
        self.assertEqual(price_of(put(day, (3, 0), None), ("dish", 0, 0)), 6)
        dear = put(day, (3, 0), 99)
        # It is not rented: free, it brings the greater block.
        self.assertEqual(price_of(dear, ("dish", 0, 0)), 9)
        self.assertEqual(price_of(put(dear, (2, 0, 0), []), ("dish", 0, 0)), 0)

    def test_smallest_day(self):
        day = (1, [0], [[[]]], [None], [])
        self.assertEqual(prices(day), {("dish", 0, 0): 0, ("radio", 0, 0): 0, ("store", 0, 0): 0})


class ShowingTest(unittest.TestCase):
    """Point 13: of the told prices."""

    def test_each_plan_of_greatest_gain_and_no_other(self):
        best = lesser = 0
        for day in days():
            told, most = prices(day), gain(day)
            self.assertIs(shows_best(day, best_plan(day), told), True, day)
            for plan, gained in brute.plans_of(day):
                self.assertIs(shows_best(day, plan, told), gained == most, (day, plan))
                best += gained == most
                lesser += gained < most
        self.assertGreater(best, 600)
        self.assertGreater(lesser, 3000)

    def test_one_less_at_any_place_shows_none(self):
        for day in days():
            told = prices(day)
            plans = [plan for plan, _ in brute.plans_of(day)]
            for place in told:
                fewer = dict(told)
                fewer[place] -= 1
                for plan in plans[:40] + [best_plan(day)]:
                    self.assertIs(shows_best(day, plan, fewer), False, (day, plan, place))

    def test_no_prices_that_show_one_are_less_at_any_place(self):
        """All prices up to the greatest worth of days of few places."""
        shown = 0
        tiny = [
            (1, [0], [[[0]]], [None], [(0, 0, 0, None, 2), (0, 0, 0, 0, 3)]),
            (1, [0], [[[0]], [[0]]], [1, 2], [(0, 0, 0, None, 3), (0, 0, 0, 0, 2)]),
            (1, [1, 0], [[[0, 1]]], [1], [(0, 0, 0, None, 3), (0, 1, 0, 0, 3), (0, 1, 0, None, 2)]),
            (2, [1], [[[0], [0]]], [None], [(0, 0, 0, None, 3)] * 3 + [(0, 0, 0, 1, 2)]),
            (2, [0], [[[0], [0]]], [1], [(0, 0, 0, None, 3), (0, 0, 0, None, 2), (0, 0, 0, 1, 1)]),
            (2, [1], [[[0], []]], [2], [(0, 0, 0, 1, 3), (0, 0, 1, None, 2), (0, 0, 0, None, 1)]),
            (2, [1], [[[], [0]]], [None], [(0, 0, 0, None, 3), (0, 0, 1, None, 2), (0, 0, 0, 1, 2)]),
        ]
        for day in tiny:
            told, plans = prices(day), brute.plans_of(day)
            for worths in itertools.product(range(4), repeat=len(told)):
                some = dict(zip(told, worths))
                if any(shows_best(day, plan, some) for plan, _ in plans):
                    shown += 1
                    self.assertTrue(all(some[place] >= told[place] for place in told), (day, some))
        self.assertGreater(shown, 20)


class DemandTest(unittest.TestCase):
    """Point 13: of any prices."""

    def near(self, day, chance):
        """Prices beside the told ones: a few places one or two up or down."""
        told = prices(day)
        for place in chance.sample(sorted(told), min(len(told), chance.randint(1, 3))):
            told[place] = max(0, told[place] + chance.choice((-2, -1, 1, 2)))
        return told

    def test_each_demand_broken_alone(self):
        chance = random.Random(131)
        alone, none = {demand: 0 for demand in DEMANDS}, 0
        for day in days():
            best, most = best_plan(day), gain(day)
            plans = brute.plans_of(day)
            for _ in range(25):
                told = self.near(day, chance)
                for plan in (best, chance.choice(plans)[0]):
                    broken = broken_demands(day, plan, told)
                    self.assertIs(shows_best(day, plan, told), not broken, (day, plan, told, broken))
                    none += not broken
                    if len(broken) == 1:
                        alone[broken.pop()] += 1
                for plan, gained in plans[:10]:
                    self.assertFalse(gained < most and shows_best(day, plan, told), (day, plan, told))
        self.assertGreater(min(alone.values()), 15, alone)
        self.assertGreater(none, 500)

    def flat(self, day, **more):
        """Prices of 0, but for the named places, as dish_0_1=5."""
        told = {place: 0 for place in brute.places_of_day(day)}
        for name, price in more.items():
            word, number, hour = name.split("_")
            self.assertIn((word, int(number), int(hour)), told)
            told[word, int(number), int(hour)] = price
        return told

    def shown(self, day, plan, **more):
        self.assertIs(shows_best(day, plan, self.flat(day, **more)), True, more)

    def not_shown(self, day, plan, **more):
        self.assertIs(shows_best(day, plan, self.flat(day, **more)), False, more)

    def test_stores_and_radios(self):
        day = (2, [1], [[[0], []]], [None], [(0, 0, 0, None, 9)])
        plan = [(0, 0, 0, 0)]
        self.shown(day, plan)
        self.shown(day, plan, store_0_1=5, radio_0_1=5)
        self.not_shown(day, plan, store_0_1=6, radio_0_1=5)
        self.shown(day, plan, dish_0_0=5, radio_0_0=5, store_0_0=5, store_0_1=5, radio_0_1=5)
        self.not_shown(day, plan, dish_0_0=5, radio_0_0=5, store_0_0=5, store_0_1=4, radio_0_1=5)
        self.not_shown(day, plan, dish_0_0=5, radio_0_0=5, store_0_0=4, store_0_1=4, radio_0_1=5)

    def test_a_full_store(self):
        blocks = [(0, 0, 0, None, 9), (0, 0, 0, None, 9)]
        day = (2, [1], [[[0], [0]]], [None], blocks)
        plan = [(0, 0, 0, 0), (1, 0, 0, 1)]
        self.shown(day, plan, dish_0_0=5, radio_0_0=5, store_0_0=5)
        self.not_shown(put(day, (1, 0), 2), plan, dish_0_0=5, radio_0_0=5, store_0_0=5)
        none_kept = (2, [0], [[[0], []]], [None], blocks[:1])
        self.shown(none_kept, plan[:1], radio_0_0=5, store_0_0=5, dish_0_0=5)
        self.not_shown(put(none_kept, (1, 0), 1), plan[:1], radio_0_0=5, store_0_0=5, dish_0_0=5)

    def test_the_last_hour_has_no_next(self):
        day = (1, [5], [[[0]]], [None], [(0, 0, 0, None, 9)])
        self.shown(day, [(0, 0, 0, 0)], dish_0_0=9, radio_0_0=9, store_0_0=9)
        self.not_shown(day, [(0, 0, 0, 0)], dish_0_0=10, radio_0_0=10, store_0_0=10)

    def test_radios_and_dishes(self):
        day = (1, [0, 0], [[[0]], [[0]]], [None, None], [(0, 0, 0, None, 9)])
        self.shown(day, [(0, 0, 0, 0)], radio_0_0=5, store_0_0=5)
        self.not_shown(day, [(0, 0, 0, 0)], radio_0_0=5, store_0_0=4)
        # Craft 1 is heard by no dish: its radio may cost what it will.
        self.shown(day, [(0, 0, 0, 0)], radio_1_0=5)
        self.not_shown(put(day, (2, 1, 0), [0, 1]), [(0, 0, 0, 0)], radio_1_0=5)
        self.not_shown(put(day, (2, 0, 0), [0, 1]), [(0, 0, 0, 0)], radio_1_0=5)

    def test_dishes(self):
        day = (1, [0], [[[0]], [[]]], [None, 4], [(0, 0, 0, None, 9)])
        plan = [(0, 0, 0, 0)]
        for price in range(5):
            self.shown(day, plan, dish_1_0=price)
        self.not_shown(day, plan, dish_1_0=5)
        self.not_shown(put(day, (3, 1), None), plan, dish_1_0=1)
        self.shown(day, plan, dish_0_0=3, radio_0_0=3, store_0_0=3)
        self.not_shown(day, plan, dish_0_0=3, radio_0_0=2, store_0_0=2)
        rented = put(day, (3, 0), 3)
        self.shown(rented, plan, dish_0_0=3, radio_0_0=3, store_0_0=3)
        self.shown(rented, plan, dish_0_0=9, radio_0_0=9, store_0_0=9)
        self.not_shown(rented, plan, dish_0_0=2, radio_0_0=2, store_0_0=2)

    def test_the_cheapest_dish(self):
        day = (1, [0], [[[0]], [[0]]], [3, 4], [(0, 0, 0, None, 9)])
        self.shown(day, [(0, 0, 0, 0)], dish_0_0=3, dish_1_0=3, radio_0_0=3, store_0_0=3)
        self.not_shown(day, [(0, 0, 0, 0)], dish_0_0=3, dish_1_0=2, radio_0_0=3, store_0_0=3)
        self.not_shown(day, [(0, 1, 0, 0)], dish_0_0=3, dish_1_0=4, radio_0_0=4, store_0_0=4)

    def test_on_the_way_down(self):
        day = (3, [1], [[[], [], [0]]], [None], [(0, 0, 0, None, 9)])
        plan = [(2, 0, 0, 0)]
        high = {"radio_0_0": 9, "radio_0_1": 9, "radio_0_2": 1, "dish_0_2": 1}
        self.shown(day, plan, store_0_0=3, store_0_1=2, store_0_2=1, **high)
        self.shown(day, plan, store_0_0=1, store_0_1=1, store_0_2=1, **high)
        self.not_shown(day, plan, store_0_0=2, store_0_1=3, store_0_2=1, **high)
        self.not_shown(day, plan, store_0_0=0, store_0_1=1, store_0_2=1, **high)
        self.not_shown(day, plan, store_0_0=3, store_0_1=2, store_0_2=0, **high)

    def test_on_the_way_up(self):
        day = (3, [0], [[[0], [0], [0]]], [2], [(0, 0, 0, 1, 9)])
        plan = [(0, 0, 0, 0)]
        self.shown(day, plan, dish_0_0=2, radio_0_0=2, radio_0_1=2, dish_0_1=2)
        self.not_shown(day, plan, dish_0_0=2, radio_0_0=2, radio_0_1=1, dish_0_1=2)
        # Its hours end at its due.
        self.shown(day, plan, dish_0_0=2, radio_0_0=2, radio_0_1=2, dish_0_1=2, radio_0_2=1, dish_0_2=2)

    def test_worths(self):
        day = (1, [0], [[[0]]], [None], [(0, 0, 0, None, 9), (0, 0, 0, 0, 4)])
        for price in range(12):
            told = self.flat(day, dish_0_0=price, radio_0_0=price, store_0_0=price)
            self.assertIs(shows_best(day, [(0, 0, 0, 0)], told), 4 <= price <= 9, price)
            self.assertIs(shows_best(day, [(0, 0, 0, 1)], told), False)


class NoPricesTest(unittest.TestCase):
    """What shows no plan, whatever else it holds."""

    def setUp(self):
        self.day = running_day()
        self.plan = best_plan(self.day)
        self.told = prices(self.day)

    def not_shown(self, told):
        for plan in (self.plan, running_plan(), []):
            self.assertIs(shows_best(self.day, plan, told), False, told)

    def test_these_show(self):
        self.assertIs(shows_best(self.day, self.plan, self.told), True)

    def test_a_place_missing(self):
        for place in self.told:
            self.not_shown({key: self.told[key] for key in self.told if key != place})
        self.not_shown({})

    def test_a_key_that_is_no_place(self):
        wrong = [
            ("store", 2, 0), ("store", 0, 4), ("store", -1, 0), ("dish", 2, 0), ("dish", 0, -1), ("beam", 0, 0),
            ("ground",), (), ("dish", 0), ("dish", 0, 0, 0), ("dish", "0", 0), (0, 0, 0), ("dish", None, 0),
            (("dish",), 0, 0), "dish", 0, None, True, b"dish", ("dish", (0,), 0), frozenset(),
        ]
        for key in wrong:
            self.not_shown({**self.told, key: 0})
            self.not_shown({key: 0})

    def test_a_truth_in_a_key(self):
        for place in self.told:
            for at in (1, 2):
                if place[at] in (0, 1):
                    key = put(place, (at,), bool(place[at]))
                    changed = {other: self.told[other] for other in self.told if other != place}
                    changed[key] = self.told[place]
                    self.assertEqual(changed, self.told)
                    self.not_shown(changed)

    def test_no_whole_number_from_0_on(self):
        for place in self.told:
            for price in [-1, -10**14] + odd_things():
                self.not_shown({**self.told, place: price})

    def test_truths_for_prices(self):
        day = (1, [0], [[[0]]], [None], [(0, 0, 0, None, 1)])
        for price in (0, 1):
            told = {place: price for place in places_of(day)}
            self.assertIs(shows_best(day, [(0, 0, 0, 0)], told), True)
            for place in told:
                self.assertIs(shows_best(day, [(0, 0, 0, 0)], {**told, place: bool(price)}), False)

    def test_no_dict(self):
        for thing in odd_things() + [list(self.told), list(self.told.items()), tuple(self.told)]:
            self.not_shown(thing)

    def test_any_order_of_the_keys(self):
        turned = {place: self.told[place] for place in reversed(list(self.told))}
        self.assertIs(shows_best(self.day, self.plan, turned), True)

    def test_great_numbers(self):
        self.not_shown({place: 10**14 for place in self.told})
        self.not_shown({**self.told, ("dish", 0, 3): 10**14})


class RefusalTest(unittest.TestCase):
    def refused(self, kind, asking, *handed):
        with self.assertRaises(SkyError) as caught:
            asking(*handed)
        self.assertIs(type(caught.exception), kind, handed)
        self.assertIsInstance(caught.exception, ValueError)

    def test_no_day(self):
        told = prices(running_day())
        for thing in odd_things() + [day_of(hours=11), list(running_day())]:
            self.refused(NoDay, places_of, thing)
            self.refused(NoDay, prices, thing)
            for place in (("dish", 0, 0), ("dish", 9, 9), None):
                self.refused(NoDay, price_of, thing, place)
            for plan in ([], [(9, 9, 9, 9)], None):
                for some in (told, {}, None):
                    self.refused(NoDay, shows_best, thing, plan, some)

    def test_no_plan(self):
        told = prices(running_day())
        wrong = [[(9, 9, 9, 9)], (), running_plan()[::-1], tuple(running_plan()), [(0, 1, 0, 5)]]
        for plan in wrong + [thing for thing in odd_things() if thing != []]:
            for some in (told, {}, None, {("dish", 9, 9): -1}):
                self.refused(NoPlan, shows_best, running_day(), plan, some)

    def test_no_place(self):
        day = (2, [0, 0], [[[0], []]], [None], [])
        wrong = [
            ("dish", 1, 0), ("dish", 0, 2), ("dish", -1, 0), ("dish", 0, -1), ("radio", 2, 0), ("store", 2, 0),
            ("store", 0, 2), ("radio", 0, 10**14), ("beam", 0, 0), ("ground",), ("", 0, 0), ("Dish", 0, 0),
            ("dish", 0), ("dish", 0, 0, 0), (), ["dish", 0, 0], ("dish", False, 0), ("dish", 0, True),
            ("store", True, 0), ("dish", "0", 0), ("dish", None, 0), ("dish", [0], 0), (["dish"], 0, 0),
            ({}, 0, 0), ("dish", {}, 0), ("dish", 0, set()), (b"dish", 0, 0), (0, 0, 0), "dish",
        ]
        for place in wrong + odd_things():
            self.refused(NoPlace, price_of, day, place)
        for place in places_of(day):
            self.assertEqual(price_of(day, place), 0)


if __name__ == "__main__":
    unittest.main()
