"""Point 4: what is a day, and what is none."""

import copy
import unittest

from skyprices.days import gain_of, is_day, is_plan
from skyprices.errors import NoDay, SkyError
from skyprices.skies import Sky
from tests.samples import (
    day_of, day_with, is_odd, odd_things, places_in, put, running_day, small_day, swapped,
)

HOURS, STORES, SIGHTS, ASKS, BLOCKS = range(5)
BLOCK = (0, 0, 0, None, 1)


def day_with_block(block):
    return day_of(hours=3, craft=2, blocks=[block])


class DayTest(unittest.TestCase):
    def assert_day(self, thing):
        self.assertIs(is_day(thing), True, thing)

    def assert_no_day(self, thing):
        """No day, and refused as such ahead of all else wherever a day is handed in."""
        self.assertIs(is_day(thing), False, thing)
        for plan in ([], None):
            for refused in (is_plan, gain_of, Sky):
                with self.assertRaises(SkyError) as caught:
                    refused(thing, plan)
                self.assertIs(type(caught.exception), NoDay)
                self.assertIsInstance(caught.exception, ValueError)


class BoundsTest(DayTest):
    def test_ordinary_days(self):
        self.assert_day(running_day())
        self.assert_day(small_day())

    def test_smallest_day(self):
        self.assert_day((1, [0], [[[]]], [None], []))

    def test_hours(self):
        for hours in range(1, 11):
            self.assert_day(day_of(hours=hours))
        for hours in (-1, 0, 11, 12):
            self.assert_no_day(day_of(hours=hours))

    def test_hours_far_beyond(self):
        for hours in (10**14, -(10**14)):
            self.assert_no_day(day_with(day_of(), HOURS, hours))

    def test_craft(self):
        for craft in range(1, 5):
            self.assert_day(day_of(craft=craft))
        for craft in (0, 5, 6):
            self.assert_no_day(day_of(craft=craft))

    def test_stores(self):
        for store in range(0, 6):
            self.assert_day(put(day_of(craft=2), (STORES, 1), store))
        for store in (-1, 6, 10**14):
            self.assert_no_day(put(day_of(craft=2), (STORES, 1), store))

    def test_dishes(self):
        for dishes in (1, 2, 3):
            self.assert_day(day_of(dishes=dishes))
        for dishes in (0, 4, 5):
            self.assert_no_day(day_of(dishes=dishes))

    def test_asks(self):
        for ask in (None, 0, 1, 998, 999):
            self.assert_day(put(day_of(dishes=2), (ASKS, 1), ask))
        for ask in (-1, 1000, 10**14):
            self.assert_no_day(put(day_of(dishes=2), (ASKS, 1), ask))

    def test_many_blocks(self):
        for many in range(0, 15):
            self.assert_day(day_of(blocks=[BLOCK] * many))
        for many in (15, 16):
            self.assert_no_day(day_of(blocks=[BLOCK] * many))

    def test_houses(self):
        for house in range(0, 6):
            self.assert_day(day_with_block((house, 0, 0, None, 1)))
        for house in (-1, 6, 10**14):
            self.assert_no_day(day_with_block((house, 0, 0, None, 1)))

    def test_craft_of_a_block(self):
        for craft in (0, 1):
            self.assert_day(day_with_block((0, craft, 0, None, 1)))
        for craft in (-1, 2, 10**14):
            self.assert_no_day(day_with_block((0, craft, 0, None, 1)))

    def test_ready(self):
        for ready in (0, 1, 2):
            self.assert_day(day_with_block((0, 0, ready, None, 1)))
        for ready in (-1, 3, 10**14):
            self.assert_no_day(day_with_block((0, 0, ready, None, 1)))

    def test_due(self):
        for ready, due in ((0, 0), (0, 1), (0, 2), (1, 1), (1, 2), (2, 2)):
            self.assert_day(day_with_block((0, 0, ready, due, 1)))
        for ready, due in ((0, -1), (1, 0), (2, 1), (2, 0), (0, 3), (2, 3), (3, 3), (0, 10**14)):
            self.assert_no_day(day_with_block((0, 0, ready, due, 1)))

    def test_worths(self):
        for worth in (1, 2, 9998, 9999):
            self.assert_day(day_with_block((0, 0, 0, None, worth)))
        for worth in (-1, 0, 10000, 10**14):
            self.assert_no_day(day_with_block((0, 0, 0, None, worth)))


class SightsTest(DayTest):
    def day_hearing(self, heard):
        return put(day_of(hours=2, craft=3, dishes=2), (SIGHTS, 1, 1), heard)

    def test_rising_lists(self):
        for heard in ([], [0], [2], [0, 2], [1, 2], [0, 1, 2]):
            self.assert_day(self.day_hearing(heard))

    def test_lists_that_do_not_rise(self):
        for heard in ([1, 0], [0, 0], [0, 1, 1], [2, 2, 2], [0, 2, 1]):
            self.assert_no_day(self.day_hearing(heard))

    def test_no_craft_by_that_number(self):
        for heard in ([3], [-1], [0, 1, 2, 3], [-1, 0], [10**14]):
            self.assert_no_day(self.day_hearing(heard))

    def test_one_list_for_each_hour(self):
        for sight in ([], [[0]], [[0], [0], [0]], [[0], None], [[0], 0]):
            self.assert_no_day(put(day_of(hours=2, dishes=2), (SIGHTS, 1), sight))

    def test_asks_and_sights_of_one_length(self):
        for dishes in (1, 2, 3):
            for asks in range(0, 5):
                day = day_with(day_of(dishes=dishes), ASKS, [None] * asks)
                if asks == dishes:
                    self.assert_day(day)
                else:
                    self.assert_no_day(day)

    def test_one_list_may_stand_at_several_places(self):
        heard = [0]
        self.assert_day((2, [1], [[heard, heard], [heard, heard]], [None, None], []))


class PartsTest(DayTest):
    def test_a_part_of_a_day_missing_or_too_many(self):
        day = running_day()
        for part in range(5):
            self.assert_no_day(day[:part] + day[part + 1:])
            self.assert_no_day(day[:part] + (day[part],) + day[part:])
        self.assert_no_day(day + (None,))

    def test_a_part_of_a_block_missing_or_too_many(self):
        for block in running_day()[BLOCKS]:
            for part in range(5):
                self.assert_no_day(day_with_block(block[:part] + block[part + 1:]))
            self.assert_no_day(day_with_block(block + (1,)))
            self.assert_no_day(day_with_block(block + (None,)))


class KindsTest(DayTest):
    def test_other_kinds_as_the_day(self):
        for thing in odd_things():
            self.assert_no_day(thing)

    def test_other_kinds_at_each_place(self):
        day = running_day()
        for path, value in places_in(day):
            may_be_none = path[:1] == (ASKS,) and len(path) == 2 or path[:1] == (BLOCKS,) and path[2:] == (3,)
            for part in odd_things():
                if is_odd(value, part) and not (part is None and may_be_none):
                    with self.subTest(path=path, part=part):
                        self.assert_no_day(put(day, path, part))

    def test_a_truth_for_a_number(self):
        day = (2, [1, 1], [[[0, 1], [1]], [[0], [1]]], [1, 0], [(0, 1, 0, 1, 1), (1, 0, 1, 1, 1)])
        self.assert_day(day)
        for path, value in places_in(day):
            if type(value) is int:
                self.assert_no_day(put(day, path, True))
                self.assert_no_day(put(day, path, False))

    def test_a_list_for_a_tuple_and_the_other_way_round(self):
        day = running_day()
        for path, value in places_in(day):
            if isinstance(value, (list, tuple)):
                with self.subTest(path=path):
                    self.assert_no_day(put(day, path, swapped(value)))

    def test_a_day_within_something(self):
        day = running_day()
        for thing in ([day], (day,), {0: day}, (day, day), list(day), (day, [])):
            self.assert_no_day(thing)

    def test_a_list_within_itself(self):
        thing = []
        thing.append(thing)
        for part in (STORES, SIGHTS, ASKS, BLOCKS):
            self.assert_no_day(day_with(day_of(), part, thing))


class AskingTest(DayTest):
    def test_by_name(self):
        self.assertIs(is_day(thing=running_day()), True)
        self.assertIs(is_day(thing=None), False)

    def test_nothing_is_changed(self):
        for thing in (running_day(), small_day(), [0], day_of(hours=11), list(running_day())):
            before = copy.deepcopy(thing)
            first = is_day(thing)
            self.assertEqual(thing, before)
            self.assertIs(is_day(thing), first)

    def test_a_changed_day_is_asked_anew(self):
        day = running_day()
        self.assert_day(day)
        day[STORES][0] = 6
        self.assert_no_day(day)
        day[STORES][0] = 5
        self.assert_day(day)


if __name__ == "__main__":
    unittest.main()
