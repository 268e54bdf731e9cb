"""Days to the full, through every function of the stages 3 to 6: what is told of a day holds together.

Too great to go through all plans, they are held against what shows itself: prices show a plan to be best,
places show that nothing more can be had.
"""

import random
import unittest

from skyprices.days import gain_of, is_day, is_plan
from skyprices.houses import bills, block_prices, told_otherwise
from skyprices.kept import best_plan, gain, kept, lost_paper, rented, rests
from skyprices.prices import places_of, price_of, prices, shows_best
from skyprices.ways import bars, bars_for, can_have, plan_for
from tests import brute
from tests.demands import broken_demands
from tests.samples import fits

DAYS = brute.full_days(16, 301)


class FullTest(unittest.TestCase):
    def test_they_are_full_and_many(self):
        for day in DAYS:
            self.assertIs(is_day(day), True)
            self.assertEqual((day[0], len(day[1]), len(day[2]), len(day[4])), (10, 4, 3, 14))
        self.assertEqual({store for day in DAYS for store in day[1]}, {0, 1, 2, 5})
        self.assertGreater(len([day for day in DAYS if len(kept(day)) < 14]), 10)
        self.assertGreater(len([day for day in DAYS if rented(day)]), 5)

    def test_what_is_kept(self):
        for day in DAYS:
            plan = best_plan(day)
            self.assertIs(is_plan(day, plan), True)
            self.assertIs(fits(day, plan), True)
            self.assertEqual(sorted(one[3] for one in plan), kept(day))
            hours = {(one[1], one[0]) for one in plan}
            self.assertFalse(hours & set(rests(day)))
            self.assertEqual(hours & set(brute.dish_hours(day)), set(rented(day)))
            self.assertEqual(sorted(rests(day) + rented(day)), brute.dish_hours(day))
            self.assertEqual(gain_of(day, plan), gain(day))

    def test_the_prices_show_the_plan_and_are_the_least(self):
        for day in DAYS:
            plan, told = best_plan(day), prices(day)
            self.assertEqual(places_of(day), brute.places_of_day(day))
            self.assertEqual(list(told), places_of(day))
            self.assertEqual(broken_demands(day, plan, told), set())
            self.assertIs(shows_best(day, plan, told), True)
            for place in places_of(day):
                self.assertEqual(price_of(day, place), told[place])
                fewer = dict(told)
                fewer[place] -= 1
                self.assertIs(shows_best(day, plan, fewer), False, (day, place))

    def test_prices_near_by(self):
        chance = random.Random(302)
        for day in DAYS:
            plan, told = best_plan(day), prices(day)
            for _ in range(60):
                near = dict(told)
                for place in chance.sample(sorted(near), 2):
                    near[place] = max(0, near[place] + chance.choice((-1, 1, 5)))
                self.assertIs(shows_best(day, plan, near), not broken_demands(day, plan, near))

    def test_other_plans_of_greatest_gain(self):
        for day in DAYS:
            told, most = prices(day), gain(day)
            plan = plan_for(day, kept(day), rests=rests(day))
            self.assertEqual(gain_of(day, plan), most)
            self.assertIs(shows_best(day, plan, told), True)
            for at in range(len(plan)):
                fewer = plan[:at] + plan[at + 1:]
                self.assertIs(shows_best(day, fewer, told), gain_of(day, fewer) == most)

    def test_lost_blocks_are_barred(self):
        seen = 0
        for day in DAYS:
            own, left = kept(day), rests(day)
            order = brute.things_in_order(day)
            for number in range(14):
                if number in own:
                    continue
                ahead = order[:[row[:2] for row in order].index(("block", number))]
                numbers = sorted(what for word, what, _ in ahead if word == "block" and what in own)
                resting = sorted(what for word, what, _ in ahead if word == "rest" and what in left)
                with_it = sorted(numbers + [number])
                places = lost_paper(day, number)
                self.assertIs(brute.may_bar(day, places), True)
                self.assertIs(brute.bars_by_count(day, with_it, resting, places), True)
                self.assertIs(bars(day, with_it, places, rests=resting), True)
                self.assertIs(bars(day, numbers, places, rests=resting), False)
                self.assertIs(can_have(day, with_it, rests=resting), False)
                self.assertIs(can_have(day, numbers, rests=resting), True)
                seen += 1
        self.assertGreater(seen, 40)

    def test_what_can_be_had_at_random(self):
        chance = random.Random(303)
        seen = {True: 0, False: 0}
        for day in DAYS:
            for likely in (0.2, 0.4, 0.6, 0.8, 1):
                numbers = [number for number in range(14) if chance.random() < likely]
                resting = [rest for rest in brute.dish_hours(day) if chance.random() < likely]
                plan = plan_for(day, numbers, rests=resting)
                places = bars_for(day, numbers, rests=resting)
                can = can_have(day, numbers, rests=tuple(resting))
                self.assertIs(can, plan is not None)
                self.assertIs(can, places is None)
                seen[can] += 1
                if can:
                    self.assertIs(is_plan(day, plan) and fits(day, plan), True)
                    self.assertEqual(sorted(one[3] for one in plan), numbers)
                    self.assertFalse({(one[1], one[0]) for one in plan} & set(resting))
                else:
                    self.assertIs(brute.may_bar(day, places), True)
                    self.assertIs(brute.bars_by_count(day, numbers, resting, places), True)
                    self.assertIs(bars(day, numbers, places, rests=resting), True)
        self.assertGreater(min(seen.values()), 10, seen)


class SendersTest(unittest.TestCase):
    def test_block_prices(self):
        for day in DAYS:
            told, own = prices(day), kept(day)
            found = block_prices(day)
            self.assertEqual(found, [brute.block_price(day, told, number) for number in range(14)])
            for number in own:
                price = found[number]
                for worth in {price + 1, 9999} - {10000}:
                    other = told_otherwise(day, number, worth)
                    self.assertIn(number, kept(other))
                    self.assertEqual(block_prices(other)[number], price)
                if price > 1:
                    self.assertNotIn(number, kept(told_otherwise(day, number, price - 1)))

    def test_bills(self):
        chance = random.Random(304)
        for day in DAYS:
            found, own, told = block_prices(day), kept(day), bills(day)
            self.assertEqual(len(told), 6)
            for house, bill in enumerate(told):
                sent = [number for number in own if day[4][number][0] == house]
                worths = sum(day[4][number][4] for number in sent)
                without = day[:4] + ([block for block in day[4] if block[0] != house],)
                self.assertEqual(bill, gain(without) - (gain(day) - worths))
                self.assertTrue(0 <= bill <= sum(found[number] for number in sent))
                for _ in range(3):
                    self.never_more(day, house, worths - bill, chance)

    def never_more(self, day, house, has, chance):
        other = day
        for number, block in enumerate(day[4]):
            if block[0] == house:
                worth = max(1, min(9999, block[4] + chance.choice((-30, -15, -1, 0, 1, 15, 30))))
                other = told_otherwise(other, number, worth)
        true = sum(day[4][number][4] for number in kept(other) if day[4][number][0] == house)
        self.assertLessEqual(true - bills(other)[house], has)


class GreatestTest(unittest.TestCase):
    """A day in which all is as great as it may be."""

    def test_all_stores_of_five(self):
        heard = [[[0, 1, 2, 3]] * 10] * 3
        blocks = [(number % 6, number % 4, 0, None, 9999) for number in range(14)]
        day = (10, [5] * 4, heard, [999] * 3, blocks)
        self.assertEqual(kept(day), list(range(14)))
        self.assertEqual(gain(day), 14 * 9000)
        self.assertEqual((len(rests(day)), len(rented(day))), (16, 14))
        self.assertEqual(set(block_prices(day)), {999})
        self.assertEqual(bills(day), [3 * 999, 3 * 999] + [2 * 999] * 4)
        self.assertIs(shows_best(day, best_plan(day), prices(day)), True)

    def test_one_dish_hour_for_all(self):
        heard = [[[]] * 9 + [[0, 1, 2, 3]]] + [[[]] * 10] * 2
        blocks = [(number % 6, number % 4, 0, None, 9999) for number in range(14)]
        day = (10, [5] * 4, heard, [None] * 3, blocks)
        self.assertEqual(kept(day), [0])
        self.assertEqual(block_prices(day), [9999] * 14)
        self.assertEqual(bills(day), [9999, 0, 0, 0, 0, 0])
        for number in range(1, 14):
            self.assertIs(bars(day, [0, number], lost_paper(day, number)), True)


if __name__ == "__main__":
    unittest.main()
