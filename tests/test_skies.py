"""Point 6: a day that is run by a plan, hour by hour."""

import copy
import inspect
import unittest

from skyprices.days import gain_of
from skyprices.errors import DayOver, NoDay, NoPlan, SkyError
from skyprices.skies import Sky
from tests.samples import all_plans, day_of, put, running_day, running_plan, small_day


def told(sky):
    return sky.now(), sky.aboard(), sky.sent(), sky.gain()


def simulated(day, plan):
    """What a Sky tells ahead of the first tick and behind each, step by step as point 6 has it."""
    hours, stores, sights, asks, blocks = day
    aboard, sent, gain = [[] for _ in stores], [], 0
    states, ticks = [(0, copy.deepcopy(aboard), [], 0)], []
    for now in range(hours):
        for number in sorted([part[3] for part in plan]):
            _, craft, ready, due, _ = blocks[number]
            if due is None and ready == now:
                aboard[craft].append(number)
        done = [part for part in plan if part[0] == now]
        for _, dish, craft, number in done:
            if blocks[number][3] is None:
                aboard[craft].remove(number)
            sent.append(number)
            gain += blocks[number][4] - (asks[dish] or 0)
        ticks.append(done)
        states.append((now + 1, [sorted(row) for row in aboard], sorted(sent), gain))
    return states, ticks


class RunTest(unittest.TestCase):
    def assert_over(self, sky):
        before = told(sky)
        for _ in range(2):
            with self.assertRaises(SkyError) as caught:
                sky.tick()
            self.assertIs(type(caught.exception), DayOver)
            self.assertIsInstance(caught.exception, ValueError)
            self.assertEqual(told(sky), before)

    def test_hour_by_hour(self):
        sky = Sky(running_day(), running_plan())
        self.assertEqual(told(sky), (0, [[], []], [], 0))
        self.assertEqual(sky.tick(), [(0, 0, 0, 5)])
        self.assertEqual(told(sky), (1, [[0], [2, 4]], [5], 10))
        self.assertEqual(sky.tick(), [(1, 0, 1, 2), (1, 1, 0, 0)])
        self.assertEqual(told(sky), (2, [[1], [4]], [0, 2, 5], 150))
        self.assertEqual(sky.tick(), [(2, 0, 1, 4), (2, 1, 0, 1)])
        self.assertEqual(told(sky), (3, [[], []], [0, 1, 2, 4, 5], 230))
        self.assertEqual(sky.tick(), [(3, 1, 1, 3)])
        self.assertEqual(told(sky), (4, [[], []], [0, 1, 2, 3, 4, 5], 240))
        self.assert_over(sky)

    def test_empty_plan(self):
        sky = Sky(running_day(), [])
        for now in range(4):
            self.assertEqual(told(sky), (now, [[], []], [], 0))
            self.assertEqual(sky.tick(), [])
        self.assertEqual(told(sky), (4, [[], []], [], 0))
        self.assert_over(sky)

    def test_one_hour(self):
        sky = Sky(day_of(hours=1, blocks=[(0, 0, 0, None, 8)]), [(0, 0, 0, 0)])
        self.assertEqual(sky.tick(), [(0, 0, 0, 0)])
        self.assertEqual(told(sky), (1, [[]], [0], 8))
        self.assert_over(sky)

    def test_blocks_out_of_the_plan_do_not_come_aboard(self):
        sky = Sky(running_day(), [(2, 0, 1, 4)])
        sky.tick()
        self.assertEqual(sky.aboard(), [[], [4]])

    def test_what_goes_up_is_never_aboard(self):
        sky = Sky(running_day(), [(3, 1, 1, 3)])
        for _ in range(4):
            self.assertEqual(sky.aboard(), [[], []])
            sky.tick()
        self.assertEqual(told(sky), (4, [[], []], [3], 10))

    def test_kept_over_many_hours(self):
        sky = Sky(day_of(hours=10, blocks=[(0, 0, 1, None, 8)]), [(9, 0, 0, 0)])
        rows = []
        for _ in range(10):
            sky.tick()
            rows.append(sky.aboard())
        self.assertEqual(rows, [[[]]] + [[[0]]] * 8 + [[[]]])

    def test_aboard_rises_by_number_and_not_by_hour(self):
        day = (4, [3], [[[0]] * 4], [None], [(0, 0, 0, None, 1), (0, 0, 0, None, 1), (0, 0, 0, None, 1)])
        sky = Sky(day, [(1, 0, 0, 2), (2, 0, 0, 0), (3, 0, 0, 1)])
        sky.tick()
        self.assertEqual(sky.aboard(), [[0, 1, 2]])
        sky.tick()
        self.assertEqual((sky.aboard(), sky.sent()), ([[0, 1]], [2]))
        sky.tick()
        self.assertEqual((sky.aboard(), sky.sent()), ([[1]], [0, 2]))

    def test_gain_below_nothing_on_the_way(self):
        day = put(day_of(blocks=[(0, 0, 0, None, 1), (0, 0, 1, None, 9999)]), (3, 0), 999)
        sky = Sky(day, [(0, 0, 0, 0), (1, 0, 0, 1)])
        sky.tick()
        self.assertEqual(sky.gain(), -998)
        sky.tick()
        self.assertEqual(sky.gain(), 8002)

    def test_all_plans_of_a_small_day(self):
        day = small_day()
        for plan in all_plans(day, 4) + [[]]:
            states, ticks = simulated(day, plan)
            sky = Sky(day, plan)
            found, done = [told(sky)], []
            for _ in range(day[0]):
                done.append(sky.tick())
                found.append(told(sky))
            self.assertEqual((found, done), (states, ticks))
            self.assertEqual(sky.gain(), gain_of(day, plan))
            self.assert_over(sky)


class RefusalTest(unittest.TestCase):
    def refusal(self, day, plan):
        with self.assertRaises(SkyError) as caught:
            Sky(day, plan)
        return type(caught.exception)

    def test_no_day_ahead_of_no_plan(self):
        self.assertIs(self.refusal(day_of(hours=11), []), NoDay)
        self.assertIs(self.refusal(day_of(hours=11), None), NoDay)
        self.assertIs(self.refusal(None, [(9, 9, 9, 9)]), NoDay)
        self.assertIs(self.refusal([], running_plan()), NoDay)

    def test_no_plan(self):
        self.assertIs(self.refusal(running_day(), None), NoPlan)
        self.assertIs(self.refusal(running_day(), ()), NoPlan)
        self.assertIs(self.refusal(running_day(), [(9, 9, 9, 9)]), NoPlan)
        self.assertIs(self.refusal(running_day(), running_plan()[::-1]), NoPlan)


class OwnershipTest(unittest.TestCase):
    """Point 2, for a Sky."""

    def test_by_name_in_any_order(self):
        for sky in (
            Sky(running_day(), plan=running_plan()),
            Sky(day=running_day(), plan=running_plan()),
            Sky(plan=running_plan(), day=running_day()),
        ):
            self.assertEqual(sky.tick(), [(0, 0, 0, 5)])

    def test_names_of_the_interface(self):
        self.assertEqual(list(inspect.signature(Sky).parameters), ["day", "plan"])
        for name in ("tick", "now", "aboard", "sent", "gain"):
            self.assertIn(name, vars(Sky))
            self.assertEqual(list(inspect.signature(vars(Sky)[name]).parameters), ["self"])

    def test_what_is_handed_in_stays(self):
        day, plan = running_day(), running_plan()
        sky = Sky(day, plan)
        for _ in range(4):
            sky.tick()
            told(sky)
        self.assertEqual((day, plan), (running_day(), running_plan()))

    def test_changing_what_was_handed_in(self):
        states, ticks = simulated(running_day(), running_plan())
        for ticked in range(5):
            day, plan = running_day(), running_plan()
            sky = Sky(day, plan)
            for _ in range(ticked):
                sky.tick()
            plan.clear()
            for row in day[2]:
                for heard in row:
                    heard.clear()
                row.clear()
            for part in day[1:]:
                part.clear()
            self.assertEqual(told(sky), states[ticked])
            for now in range(ticked, 4):
                self.assertEqual(sky.tick(), ticks[now])
                self.assertEqual(told(sky), states[now + 1])

    def test_changing_what_was_told(self):
        states, ticks = simulated(running_day(), running_plan())
        sky = Sky(running_day(), running_plan())
        for now in range(4):
            for row in sky.aboard():
                row.append(99)
            sky.aboard().clear()
            sky.sent().append(99)
            self.assertEqual(told(sky), states[now])
            done = sky.tick()
            self.assertEqual(done, ticks[now])
            done.append((9, 9, 9, 9))
            done.pop(0)
            self.assertEqual(told(sky), states[now + 1])

    def test_no_two_lists_told_are_one(self):
        sky = Sky(running_day(), running_plan())
        lists = []
        for _ in range(4):
            for _ in range(2):
                aboard = sky.aboard()
                lists.extend([aboard, sky.sent()] + aboard)
            lists.append(sky.tick())
        lists.extend([sky.aboard(), sky.sent()])
        self.assertEqual(len({id(row) for row in lists}), len(lists))

    def test_asked_again(self):
        sky = Sky(running_day(), running_plan())
        for _ in range(4):
            self.assertEqual(told(sky), told(sky))
            sky.tick()

    def test_two_skies_of_one_day_and_plan(self):
        day, plan = running_day(), running_plan()
        states, ticks = simulated(day, plan)
        first, second = Sky(day, plan), Sky(day, plan)
        first.tick()
        first.tick()
        self.assertEqual(told(first), states[2])
        self.assertEqual(told(second), states[0])
        self.assertEqual(second.tick(), ticks[0])
        self.assertEqual(told(second), states[1])
        self.assertEqual(first.tick(), ticks[2])
        self.assertEqual(told(second), states[1])

    def test_two_skies_of_one_day_and_two_plans(self):
        day = running_day()
        first, second = Sky(day, running_plan()), Sky(day, [(2, 0, 1, 4)])
        first.tick()
        second.tick()
        self.assertEqual(first.aboard(), [[0], [2, 4]])
        self.assertEqual(second.aboard(), [[], [4]])
        self.assertEqual((first.gain(), second.gain()), (10, 0))


if __name__ == "__main__":
    unittest.main()
