"""Points 9, 10 and 11: what is kept of a day, and what shows a lost block to be lost."""

import unittest

from skyprices.days import gain_of, is_plan
from skyprices.errors import NoDay, NoLost, SkyError
from skyprices.kept import best_plan, gain, kept, lost_paper, rented, rests
from skyprices.ways import bars
from tests import brute
from tests.samples import day_of, odd_things, put, running_day, running_plan

# Few worths, so that many are alike, asks among them.
ALIKE = {"worths": (1, 1, 2, 2, 2, 3), "asks": (None, 0, 0, 1, 1, 2, 2, 3)}


def days():
    return brute.small_days(250, 91) + brute.small_days(250, 92, **ALIKE)


class TakenTest(unittest.TestCase):
    """Point 9."""

    def test_one_by_one_against_all_plans(self):
        lost = alike = 0
        for day in days():
            told = brute.taken_in_order(day)
            self.assertEqual(kept(day), sorted(what for word, what, _, fits in told if word == "block" and fits), day)
            self.assertEqual(rests(day), sorted(what for word, what, _, fits in told if word == "rest" and fits), day)
            self.assertEqual(
                rented(day), sorted(what for word, what, _, fits in told if word == "rest" and not fits), day
            )
            lost += len([row for row in told if not row[3]])
            alike += len(told) - len({row[2] for row in told})
        self.assertGreater(lost, 500)
        self.assertGreater(alike, 500)

    def test_no_plan_gains_more(self):
        for day in days():
            most = max(gain_of(day, passes) for passes, _ in brute.plans_of(day))
            self.assertEqual(gain(day), most, day)
            self.assertEqual(gain(day), brute.most_gain(day))

    def test_gain_by_what_is_told(self):
        for day in days():
            worths = sum(day[4][number][4] for number in kept(day))
            self.assertEqual(gain(day), worths - sum(day[3][dish] for dish, _ in rented(day)))
            self.assertIs(type(gain(day)), int)

    def test_the_best_plan(self):
        for day in days():
            plan = best_plan(day)
            self.assertIs(is_plan(day, plan), True, (day, plan))
            self.assertEqual(sorted(one[3] for one in plan), kept(day))
            hours = {(one[1], one[0]) for one in plan}
            self.assertFalse(hours & set(rests(day)), (day, plan))
            self.assertEqual(hours & set(brute.dish_hours(day)), set(rented(day)))
            self.assertEqual(gain_of(day, plan), gain(day))

    def test_rests_and_rented_are_all_hours_of_other_rooms(self):
        for day in days():
            self.assertEqual(sorted(rests(day) + rented(day)), brute.dish_hours(day))


class OrderTest(unittest.TestCase):
    """What comes ahead, where things are of alike worth and no two can be had together."""

    def one_way(self, ask, *worths):
        """A day of one hour in which one block may come down, by one dish."""
        return (1, [0], [[[0]]], [ask], [(0, 0, 0, None, worth) for worth in worths])

    def test_greater_worth_ahead(self):
        self.assertEqual(kept(self.one_way(None, 4, 5, 3)), [1])
        self.assertEqual(gain(self.one_way(None, 4, 5, 3)), 5)

    def test_blocks_by_their_numbers(self):
        self.assertEqual(kept(self.one_way(None, 5, 5, 5)), [0])
        self.assertEqual(kept(self.one_way(None, 4, 5, 5)), [1])

    def test_rests_ahead_of_blocks(self):
        day = self.one_way(5, 5)
        self.assertEqual((kept(day), rests(day), rented(day), gain(day)), ([], [(0, 0)], [], 0))
        self.assertEqual(best_plan(day), [])
        day = self.one_way(5, 6)
        self.assertEqual((kept(day), rests(day), rented(day), gain(day)), ([0], [], [(0, 0)], 1))
        self.assertEqual(best_plan(day), [(0, 0, 0, 0)])

    def test_rests_by_dish_then_hour(self):
        day = (2, [1], [[[0], [0]], [[0], [0]]], [5, 5], [(0, 0, 0, None, 9)])
        self.assertEqual((rests(day), rented(day)), ([(0, 0), (0, 1), (1, 0)], [(1, 1)]))
        day = (2, [1], [[[0], [0]], [[], []]], [5, 5], [(0, 0, 0, None, 9)])
        self.assertEqual((rests(day), rented(day)), ([(0, 0), (1, 0), (1, 1)], [(0, 1)]))

    def test_an_ask_of_nothing(self):
        day = self.one_way(0, 1)
        self.assertEqual((kept(day), rests(day), rented(day), gain(day)), ([0], [], [(0, 0)], 1))
        # Where our own dish does as well, the other room's is left alone, though it asks nothing.
        day = (1, [0], [[[0]], [[0]]], [0, None], [(0, 0, 0, None, 1)])
        self.assertEqual((kept(day), rests(day), rented(day), gain(day)), ([0], [(0, 0)], [], 1))
        self.assertEqual(best_plan(day), [(0, 1, 0, 0)])

    def test_the_cheaper_dish(self):
        day = (1, [0], [[[0]], [[0]], [[0]]], [7, 3, 5], [(0, 0, 0, None, 9)])
        self.assertEqual((rests(day), rented(day), gain(day)), ([(0, 0), (2, 0)], [(1, 0)], 6))

    def test_a_lesser_thing_that_fits_beside(self):
        blocks = [(0, 0, 0, None, 9), (0, 0, 0, None, 8), (0, 0, 1, 1, 1), (0, 1, 0, 0, 2)]
        day = (2, [0, 0], [[[0, 1], [0]]], [None], blocks)
        self.assertEqual((kept(day), gain(day)), ([0, 2], 10))


class SmallestTest(unittest.TestCase):
    def test_no_blocks(self):
        day = (1, [0], [[[]]], [None], [])
        self.assertEqual((kept(day), rests(day), rented(day), gain(day), best_plan(day)), ([], [], [], 0, []))
        day = (2, [0], [[[], []], [[0], []]], [0, 999], [])
        self.assertEqual((kept(day), rented(day), gain(day), best_plan(day)), ([], [], 0, []))
        self.assertEqual(rests(day), [(0, 0), (0, 1), (1, 0), (1, 1)])

    def test_all_kept(self):
        day = put(running_day(), (3, 1), None)
        self.assertEqual((kept(day), rests(day), rented(day)), ([0, 1, 2, 3, 4, 5], [], []))
        self.assertEqual(gain(day), gain_of(day, running_plan()))

    def test_a_block_that_is_not_worth_its_rent(self):
        self.assertEqual(kept(running_day()), [0, 1, 2, 3, 4])
        self.assertEqual(gain(running_day()), 260)
        self.assertEqual(gain_of(running_day(), running_plan()), 240)

    def test_too_dear(self):
        day = put(day_of(blocks=[(0, 0, 0, None, 998), (1, 0, 0, 1, 1000)]), (3, 0), 999)
        self.assertEqual((kept(day), rented(day), gain(day)), ([1], [(0, 1)], 1))


class MostTest(unittest.TestCase):
    """Point 10."""

    def test_as_many_as_can_be_had_at_all(self):
        for day in brute.small_days(150, 101) + brute.small_days(150, 102, **ALIKE):
            having = brute.Having(day)
            taken = [("rest", rest) for rest in rests(day)] + [("block", number) for number in kept(day)]
            ahead = []
            for word, what, _ in brute.things_in_order(day):
                ahead.append((word, what))
                self.assertEqual(len([thing for thing in ahead if thing in taken]), self.most(having, ahead), day)

    def most(self, having, things):
        """How many of the things can be had together."""
        numbers = {what for word, what in things if word == "block"}
        hours = {what for word, what in things if word == "rest"}
        return max(
            len(sent) + len(hours - used)
            for sent, rows in having.used.items() if set(sent) <= numbers
            for used in rows
        )


class LostTest(unittest.TestCase):
    """Point 11."""

    def test_bars_with_what_is_taken_ahead(self):
        seen = 0
        for day in days():
            told = brute.taken_in_order(day)
            for at, (word, number, _, fits) in enumerate(told):
                if word == "rest" or fits:
                    continue
                ahead = [row for row in told[:at] if row[3]]
                numbers = sorted(what for word, what, _, _ in ahead if word == "block")
                resting = sorted(what for word, what, _, _ in ahead if word == "rest")
                with_it = sorted(numbers + [number])
                places = lost_paper(day, number)
                self.assertIs(brute.may_bar(day, places), True, (day, places))
                self.assertIs(brute.bars_by_count(day, with_it, resting, places), True, (day, number, places))
                self.assertIs(bars(day, with_it, places, rests=resting), True)
                self.assertIs(bars(day, numbers, places, rests=resting), False)
                self.assertIs(brute.bars_by_count(day, numbers, resting, places), False)
                seen += 1
        self.assertGreater(seen, 300)

    def test_by_hand(self):
        day = (1, [3], [[[0]]], [None], [(0, 0, 0, None, 4), (0, 0, 0, None, 5)])
        self.assertIs(bars(day, [0, 1], lost_paper(day, 0)), True)
        day = (1, [3], [[[0]]], [4], [(0, 0, 0, None, 4)])
        self.assertIs(bars(day, [0], lost_paper(day, 0), rests=[(0, 0)]), True)
        self.assertIs(bars(day, [0], lost_paper(day, 0)), False)

    def test_a_block_that_nobody_may_hear(self):
        day = (2, [1], [[[], []]], [None], [(0, 0, 0, None, 4), (0, 0, 0, 1, 3)])
        for number in (0, 1):
            self.assertIs(bars(day, [number], lost_paper(day, number)), True)


class RefusalTest(unittest.TestCase):
    def refused(self, kind, day, number):
        with self.assertRaises(SkyError) as caught:
            lost_paper(day, number)
        self.assertIs(type(caught.exception), kind, (day, number))
        self.assertIsInstance(caught.exception, ValueError)

    def test_no_day(self):
        for thing in odd_things() + [day_of(hours=11), list(running_day())]:
            for asking in (kept, rests, rented, gain, best_plan):
                with self.assertRaises(SkyError) as caught:
                    asking(thing)
                self.assertIs(type(caught.exception), NoDay)
                self.assertIsInstance(caught.exception, ValueError)
            for number in (0, 99, None):
                self.refused(NoDay, thing, number)

    def test_no_lost(self):
        # Blocks 0 and 1 are lost, which are what the truths stand for.
        day = (1, [0], [[[0]]], [None], [(0, 0, 0, None, 4), (0, 0, 0, None, 3), (0, 0, 0, None, 5)])
        self.assertEqual(kept(day), [2])
        for number in (0, 1):
            self.assertIs(bars(day, [number, 2], lost_paper(day, number)), True)
        for number in odd_things() + [2, 3, -1, -2, 10**14, "1", (0,), ("block", 0), (0, 0)]:
            self.refused(NoLost, day, number)

    def test_no_lost_of_all_kept_blocks(self):
        for day in brute.small_days(60, 111):
            for number in kept(day) + [len(day[4]), -1]:
                self.refused(NoLost, day, number)
        for number in (-1, 0, 1, 2, 3, 4, 6, 7):
            self.refused(NoLost, running_day(), number)


if __name__ == "__main__":
    unittest.main()
