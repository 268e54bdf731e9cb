"""Point 5: what is a plan of a day, and what it gains."""

import copy
import itertools
import unittest

from skyprices.days import gain_of, is_plan
from skyprices.errors import NoPlan, SkyError
from skyprices.skies import Sky
from tests.samples import (
    all_plans, day_of, fits, is_odd, odd_things, places_in, put, running_day, running_plan, single_passes,
    small_day, swapped,
)


class PlanTest(unittest.TestCase):
    def assert_plan(self, day, thing):
        self.assertIs(is_plan(day, thing), True, thing)

    def assert_no_plan(self, day, thing):
        """No plan of the day, and refused as such wherever a plan is handed in."""
        self.assertIs(is_plan(day, thing), False, thing)
        for refused in (gain_of, Sky):
            with self.assertRaises(SkyError) as caught:
                refused(day, thing)
            self.assertIs(type(caught.exception), NoPlan)
            self.assertIsInstance(caught.exception, ValueError)


class DemandsTest(PlanTest):
    """Each demand of a plan, broken alone."""

    def test_ordinary_plans(self):
        self.assert_plan(running_day(), running_plan())
        for many in range(len(running_plan())):
            self.assert_plan(running_day(), running_plan()[many:])

    def test_empty_plan(self):
        self.assert_plan(running_day(), [])
        self.assert_plan((1, [0], [[[]]], [None], []), [])

    def test_no_block_at_all(self):
        self.assert_no_plan(day_of(), [(0, 0, 0, 0)])

    def test_not_rising(self):
        plan = running_plan()
        for at in range(len(plan) - 1):
            self.assert_no_plan(running_day(), plan[:at] + [plan[at + 1], plan[at]] + plan[at + 2:])
        self.assert_no_plan(running_day(), plan[::-1])

    def test_one_pass_twice(self):
        plan = running_plan()
        for at in range(len(plan)):
            self.assert_no_plan(running_day(), plan[:at] + [plan[at]] + plan[at:])

    def test_two_of_one_hour_and_dish(self):
        day = day_of(craft=2, blocks=[(0, 0, 0, None, 1), (0, 1, 0, None, 1)])
        self.assert_no_plan(day, [(0, 0, 0, 0), (0, 0, 1, 1)])
        self.assert_plan(day, [(0, 0, 0, 0), (1, 0, 1, 1)])

    def test_two_of_one_hour_and_craft(self):
        for due, other in ((None, None), (None, 1), (1, None), (1, 1)):
            day = day_of(dishes=2, blocks=[(0, 0, 0, due, 1), (0, 0, 0, other, 1)])
            self.assert_no_plan(day, [(0, 0, 0, 0), (0, 1, 0, 1)])
            self.assert_plan(day, [(0, 0, 0, 0), (1, 1, 0, 1)])

    def test_two_of_one_block(self):
        for due in (None, 1):
            day = day_of(dishes=2, blocks=[(0, 0, 0, due, 1)])
            self.assert_no_plan(day, [(0, 0, 0, 0), (1, 0, 0, 0)])
            self.assert_no_plan(day, [(0, 0, 0, 0), (1, 1, 0, 0)])
            self.assert_no_plan(day, [(0, 0, 0, 0), (0, 1, 0, 0)])
            self.assert_plan(day, [(1, 1, 0, 0)])

    def test_a_dish_that_may_not_hear_the_craft(self):
        day = put(day_of(craft=2, dishes=2, blocks=[(0, 1, 0, None, 1)]), (2, 0, 1), [0])
        self.assert_no_plan(day, [(1, 0, 1, 0)])
        self.assert_plan(day, [(0, 0, 1, 0)])
        self.assert_plan(day, [(1, 1, 1, 0)])
        self.assert_no_plan(put(day, (2, 1, 1), []), [(1, 1, 1, 0)])

    def test_the_wrong_craft(self):
        day = day_of(craft=2, blocks=[(0, 1, 0, None, 1), (0, 0, 0, 1, 1)])
        self.assert_no_plan(day, [(0, 0, 0, 0)])
        self.assert_no_plan(day, [(0, 0, 1, 1)])
        self.assert_plan(day, [(0, 0, 1, 0), (1, 0, 0, 1)])

    def test_hours_of_a_block_that_goes_down(self):
        day = day_of(hours=4, blocks=[(0, 0, 1, None, 1)])
        self.assert_no_plan(day, [(0, 0, 0, 0)])
        for hour in (1, 2, 3):
            self.assert_plan(day, [(hour, 0, 0, 0)])

    def test_hours_of_a_block_that_goes_up(self):
        day = day_of(hours=4, blocks=[(0, 0, 1, 2, 1)])
        for hour in (0, 3):
            self.assert_no_plan(day, [(hour, 0, 0, 0)])
        for hour in (1, 2):
            self.assert_plan(day, [(hour, 0, 0, 0)])

    def test_due_at_its_hour_ready(self):
        day = day_of(hours=3, blocks=[(0, 0, 1, 1, 1)])
        self.assert_plan(day, [(1, 0, 0, 0)])
        for hour in (0, 2):
            self.assert_no_plan(day, [(hour, 0, 0, 0)])

    def test_numbers_below_and_beyond(self):
        day = day_of(hours=2, craft=2, dishes=2, blocks=[(0, 1, 0, None, 1), (0, 1, 0, None, 1)])
        self.assert_plan(day, [(1, 1, 1, 1)])
        for part in range(4):
            for number in (-1, -2, 2, 3, 10**14, -(10**14)):
                with self.subTest(part=part, number=number):
                    self.assert_no_plan(day, [put((1, 1, 1, 1), (part,), number)])

    def test_a_part_of_a_pass_missing_or_too_many(self):
        plan = running_plan()
        for at, part in enumerate(plan):
            for wrong in (part[:3], part[1:], part + (0,), ()):
                self.assert_no_plan(running_day(), plan[:at] + [wrong] + plan[at + 1:])


class StoresTest(PlanTest):
    def day(self, store, blocks):
        return (6, [store, 5], [[[0, 1]] * 6], [None], blocks)

    def test_just_full_and_one_beyond(self):
        blocks = [(0, 0, 0, None, 1)] * 6
        plan = [(hour, 0, 0, hour) for hour in range(6)]
        self.assert_plan(self.day(5, blocks), plan)
        for store in range(5):
            self.assert_no_plan(self.day(store, blocks), plan)
            self.assert_plan(self.day(store, blocks), plan[:store + 1])
            self.assert_no_plan(self.day(store, blocks), plan[:store + 2])
            self.assert_plan(self.day(store, blocks), plan[-store:] if store else [])
            self.assert_no_plan(self.day(store, blocks), plan[-store - 1:])

    def test_a_store_of_none(self):
        day = self.day(0, [(0, 0, 2, None, 1)])
        self.assert_plan(day, [(2, 0, 0, 0)])
        for hour in (3, 4, 5):
            self.assert_no_plan(day, [(hour, 0, 0, 0)])

    def test_sent_at_its_hour_ready_wants_no_store(self):
        day = self.day(1, [(0, 0, 0, None, 1), (0, 0, 1, None, 1), (0, 0, 2, None, 1)])
        self.assert_plan(day, [(1, 0, 0, 1), (2, 0, 0, 2), (3, 0, 0, 0)])
        self.assert_no_plan(day, [(2, 0, 0, 2), (3, 0, 0, 0), (4, 0, 0, 1)])

    def test_full_at_a_middle_hour_alone(self):
        day = self.day(1, [(0, 0, 0, None, 1), (0, 0, 2, None, 1)])
        self.assert_plan(day, [(2, 0, 0, 0), (3, 0, 0, 1)])
        self.assert_no_plan(day, [(3, 0, 0, 0), (4, 0, 0, 1)])
        self.assert_no_plan(day, [(3, 0, 0, 1), (4, 0, 0, 0)])

    def test_going_up_wants_no_store(self):
        day = self.day(0, [(0, 0, 0, 5, 1)] * 3)
        self.assert_plan(day, [(3, 0, 0, 0), (4, 0, 0, 1), (5, 0, 0, 2)])

    def test_blocks_without_a_pass_are_not_kept(self):
        day = self.day(1, [(0, 0, 0, None, 1)] * 5)
        self.assert_plan(day, [(5, 0, 0, 3)])

    def test_each_craft_has_its_own_store(self):
        blocks = [(0, 0, 0, None, 1), (0, 1, 0, None, 1), (0, 1, 0, None, 1)]
        self.assert_plan(self.day(1, blocks), [(1, 0, 0, 0), (2, 0, 1, 1), (3, 0, 1, 2)])
        self.assert_no_plan(self.day(0, blocks), [(1, 0, 0, 0)])
        self.assert_plan(self.day(0, blocks), [(2, 0, 1, 1), (3, 0, 1, 2)])


class KindsTest(PlanTest):
    def test_other_kinds_as_the_plan(self):
        for thing in odd_things():
            if thing != []:
                self.assert_no_plan(running_day(), thing)

    def test_other_kinds_at_each_place(self):
        plan = running_plan()
        for path, value in places_in(plan):
            for part in odd_things():
                if is_odd(value, part):
                    with self.subTest(path=path, part=part):
                        self.assert_no_plan(running_day(), put(plan, path, part))

    def test_a_truth_for_a_number(self):
        day = day_of(craft=2, dishes=2, blocks=[(0, 0, 0, None, 1), (0, 1, 0, None, 1)])
        for plan in ([(0, 0, 0, 0)], [(1, 1, 1, 1)]):
            self.assert_plan(day, plan)
            for part in range(4):
                self.assert_no_plan(day, put(plan, (0, part), bool(plan[0][part])))

    def test_a_list_for_a_tuple_and_the_other_way_round(self):
        plan = running_plan()
        self.assert_no_plan(running_day(), swapped(plan))
        self.assert_no_plan(running_day(), ())
        for at in range(len(plan)):
            self.assert_no_plan(running_day(), put(plan, (at,), swapped(plan[at])))

    def test_kinds_that_can_not_be_compared(self):
        self.assert_no_plan(running_day(), [None, (0, 0, 0, 5)])
        self.assert_no_plan(running_day(), [(0, 0, 0, 5), None])
        self.assert_no_plan(running_day(), [(0, 0, 0, 5), (0, 0, 0, None)])
        self.assert_no_plan(running_day(), [(0, 0, 0, 5), (0, 0, 0, [5])])

    def test_a_list_within_itself(self):
        thing = []
        thing.append(thing)
        self.assert_no_plan(running_day(), thing)


class TriedTest(PlanTest):
    def test_all_lists_of_few_single_passes(self):
        day = small_day()
        told = {True: 0, False: 0}
        for many in range(5):
            for passes in itertools.combinations(single_passes(day), many):
                wanted = fits(day, passes)
                self.assertIs(is_plan(day, list(passes)), wanted, passes)
                told[wanted] += 1
        self.assertGreater(told[True], 50)
        self.assertGreater(told[False], 50)

    def test_all_tuples_as_the_one_pass(self):
        day = small_day()
        singles = single_passes(day)
        for told in itertools.product(range(-1, 4), range(-1, 3), range(-1, 3), range(-1, 5)):
            self.assertIs(is_plan(day, [told]), told in singles and fits(day, [told]), told)


class GainTest(PlanTest):
    def test_of_nothing(self):
        self.assertEqual(gain_of(running_day(), []), 0)

    def test_with_dishes_of_both_kinds(self):
        self.assertEqual(gain_of(running_day(), running_plan()), 240)

    def test_our_own_dish(self):
        self.assertEqual(gain_of(running_day(), [(0, 0, 0, 5), (1, 0, 1, 2)]), 80)

    def test_the_dish_of_another_room(self):
        self.assertEqual(gain_of(running_day(), [(1, 1, 0, 0), (3, 1, 1, 3)]), 100 + 40 - 30 - 30)

    def test_below_nothing(self):
        day = put(day_of(blocks=[(0, 0, 0, None, 1), (0, 0, 1, 1, 9999)]), (3, 0), 999)
        self.assertEqual(gain_of(day, [(0, 0, 0, 0)]), -998)
        self.assertEqual(gain_of(day, [(0, 0, 0, 0), (1, 0, 0, 1)]), -998 + 9000)

    def test_another_room_that_asks_nothing(self):
        day = put(day_of(blocks=[(0, 0, 0, None, 1)]), (3, 0), 0)
        self.assertEqual(gain_of(day, [(0, 0, 0, 0)]), 1)

    def test_all_plans_of_a_small_day(self):
        day = small_day()
        for plan in all_plans(day, 4):
            worths = sum([day[4][number][4] for _, _, _, number in plan])
            asked = sum([7 for _, dish, _, _ in plan if dish == 1])
            gain = gain_of(day, plan)
            self.assertEqual(gain, worths - asked)
            self.assertIs(type(gain), int)


class AskingTest(PlanTest):
    def test_by_name_in_any_order(self):
        self.assertIs(is_plan(running_day(), thing=running_plan()), True)
        self.assertIs(is_plan(thing=running_plan(), day=running_day()), True)
        self.assertIs(is_plan(thing=None, day=running_day()), False)
        self.assertEqual(gain_of(running_day(), plan=running_plan()), 240)
        self.assertEqual(gain_of(plan=running_plan(), day=running_day()), 240)

    def test_nothing_is_changed(self):
        for plan in (running_plan(), [], running_plan()[::-1], [None], [[0, 0, 0, 5]]):
            day, kept_plan = running_day(), copy.deepcopy(plan)
            first = is_plan(day, plan)
            if first:
                gain_of(day, plan)
            else:
                self.assert_no_plan(day, plan)
            self.assertEqual((day, plan), (running_day(), kept_plan))
            self.assertIs(is_plan(day, plan), first)

    def test_a_changed_day_or_plan_is_asked_anew(self):
        day, plan = running_day(), running_plan()
        self.assertEqual(gain_of(day, plan), 240)
        day[3][1] = 40
        self.assertEqual(gain_of(day, plan), 210)
        del plan[-1]
        self.assertEqual(gain_of(day, plan), 210)
        day[1][0] = 0
        self.assert_no_plan(day, plan)


if __name__ == "__main__":
    unittest.main()
