"""Points 14 and 15: what each block must be worth, and the bills of the houses."""

import copy
import itertools
import random
import unittest

from skyprices.days import is_day
from skyprices.errors import NoBlock, NoDay, NoWorth, SkyError
from skyprices.houses import bills, block_prices, told_otherwise
from skyprices.kept import kept
from skyprices.prices import prices
from tests import brute
from tests.samples import day_of, odd_things, put, running_day

ALIKE = {"worths": (1, 2, 2, 3, 3), "asks": (None, None, 0, 1, 2)}


def days():
    return brute.small_days(200, 141) + brute.small_days(200, 142, **ALIKE)


def without_house(day, house):
    return day[:4] + ([block for block in day[4] if block[0] != house],)


def kept_worth(day, house):
    """What the kept blocks of the house are worth together, as they are told."""
    return sum(day[4][number][4] for number in kept(day) if day[4][number][0] == house)


class BlockPriceTest(unittest.TestCase):
    """Point 14."""

    def test_by_the_told_prices(self):
        for day in days():
            told = prices(day)
            wanted = [brute.block_price(day, told, number) for number in range(len(day[4]))]
            self.assertEqual(block_prices(day), wanted, day)

    def test_kept_and_lost_by_their_worths(self):
        for day in days():
            own = kept(day)
            for number, price in enumerate(block_prices(day)):
                self.assertIs(type(price), int)
                self.assertGreaterEqual(price, 0)
                worth = day[4][number][4]
                if number in own:
                    self.assertGreaterEqual(worth, price)
                else:
                    self.assertLessEqual(worth, price)

    def test_a_kept_block_told_otherwise(self):
        above = below = 0
        for day in days():
            found = block_prices(day)
            for number in kept(day):
                price = found[number]
                for worth in {price + 1, price + 2, price + 50, 9999}:
                    other = told_otherwise(day, number, worth)
                    self.assertIn(number, kept(other), (day, number, worth))
                    self.assertEqual(block_prices(other)[number], price, (day, number, worth))
                    above += 1
                for worth in range(1, price):
                    self.assertNotIn(number, kept(told_otherwise(day, number, worth)), (day, number, worth))
                    below += 1
        self.assertGreater(above, 1000)
        self.assertGreater(below, 100)

    def test_no_sender_of_one_block_gains_by_another_worth(self):
        for day in days():
            own, found = kept(day), block_prices(day)
            for number, block in enumerate(day[4]):
                true = block[4]
                has = true - found[number] if number in own else 0
                for worth in range(1, 9):
                    other = told_otherwise(day, number, worth)
                    if number in kept(other):
                        self.assertLessEqual(true - block_prices(other)[number], has, (day, number, worth))

    def test_by_hand(self):
        day = (1, [3], [[[0]]], [None], [(0, 0, 0, None, 9), (0, 0, 0, 0, 6), (0, 0, 0, None, 4)])
        self.assertEqual(block_prices(day), [6, 6, 6])
        day = (1, [3], [[[0]]], [7], [(0, 0, 0, None, 9), (0, 0, 0, 0, 6)])
        self.assertEqual(block_prices(day), [7, 7])
        day = (1, [3], [[[0]]], [11], [(0, 0, 0, None, 9), (0, 0, 0, 0, 6)])
        self.assertEqual(block_prices(day), [9, 9])

    def test_what_goes_up_has_the_cheapest_of_its_hours(self):
        # Hour 0 is rented for 5, at hour 1 something greater goes down, at hour 2 is nobody else.
        blocks = [(0, 0, 0, 2, 9), (0, 0, 1, None, 90), (0, 0, 1, None, 80), (0, 0, 0, 1, 9)]
        day = (3, [0], [[[0], [], []], [[], [0], [0]]], [5, None], blocks)
        told = prices(day)
        self.assertEqual([told["radio", 0, hour] for hour in range(3)], [5, 80, 0])
        self.assertEqual(block_prices(day), [0, 80, 80, 5])

    def test_no_blocks(self):
        self.assertEqual(block_prices((1, [0], [[[]]], [None], [])), [])


class ToldOtherwiseTest(unittest.TestCase):
    def test_all_else_as_it_is(self):
        for number, block in enumerate(running_day()[4]):
            for worth in (1, 2, block[4], 9998, 9999):
                told = told_otherwise(running_day(), number, worth)
                self.assertEqual(told, put(running_day(), (4, number, 4), worth))
                self.assertIs(is_day(told), True)

    def test_no_block(self):
        for number in [6, -1, -6, 10**14, "0", (0,)] + odd_things():
            for worth in (1, 0, 10000, None):
                self.refused(NoBlock, running_day(), number, worth)
        self.refused(NoBlock, day_of(), 0, 1)

    def test_no_worth(self):
        for worth in [0, -1, 10000, 10**14, "1", (1,)] + odd_things():
            for number in (0, 5):
                self.refused(NoWorth, running_day(), number, worth)

    def test_no_day(self):
        for thing in odd_things() + [day_of(hours=11), list(running_day())]:
            for number, worth in ((0, 1), (9, 1), (0, 0), (None, None)):
                self.refused(NoDay, thing, number, worth)
            for asking in (block_prices, bills):
                with self.assertRaises(SkyError) as caught:
                    asking(thing)
                self.assertIs(type(caught.exception), NoDay)
                self.assertIsInstance(caught.exception, ValueError)

    def refused(self, kind, day, number, worth):
        before = copy.deepcopy(day) if kind is not NoDay else None
        with self.assertRaises(SkyError) as caught:
            told_otherwise(day, number, worth)
        self.assertIs(type(caught.exception), kind, (day, number, worth))
        self.assertIsInstance(caught.exception, ValueError)
        if before is not None:
            self.assertEqual(day, before)


class BillTest(unittest.TestCase):
    """Point 15."""

    def test_by_the_greatest_gains(self):
        some = 0
        for day in days():
            told = bills(day)
            self.assertEqual(len(told), 6)
            for house, bill in enumerate(told):
                others = brute.most_gain(day) - kept_worth(day, house)
                self.assertEqual(bill, brute.most_gain(without_house(day, house)) - others, (day, house))
                self.assertIs(type(bill), int)
                some += bill > 0
        self.assertGreater(some, 100)

    def test_bounds(self):
        less = 0
        for day in days():
            found, own = block_prices(day), kept(day)
            for house, bill in enumerate(bills(day)):
                together = sum(found[number] for number in own if day[4][number][0] == house)
                self.assertGreaterEqual(bill, 0)
                self.assertLessEqual(bill, together, (day, house))
                less += bill < together
                if all(day[4][number][0] != house for number in own):
                    self.assertEqual(bill, 0)
        self.assertGreater(less, 20)

    def test_a_house_of_one_block_pays_its_price(self):
        for day in brute.small_days(100, 143):
            blocks = [(house,) + block[1:] for house, block in enumerate(day[4])]
            day = day[:4] + (blocks,)
            found, own = block_prices(day), kept(day)
            wanted = [found[number] if number in own else 0 for number in range(len(blocks))]
            self.assertEqual(bills(day), wanted + [0] * (6 - len(wanted)))

    def test_no_house_gains_by_other_worths(self):
        chance = random.Random(144)
        for day in brute.small_days(150, 145) + brute.small_days(150, 146, **ALIKE):
            for house in range(3):
                for _ in range(4):
                    self.never_more(day, house, [chance.randint(1, 8) for _ in day[4]])

    def test_all_other_worths_of_a_small_day(self):
        blocks = [(0, 0, 0, None, 3), (0, 0, 0, 1, 2), (1, 0, 0, None, 3), (0, 1, 1, None, 4), (1, 1, 0, 1, 2)]
        day = (2, [1, 0], [[[0], [0, 1]], [[1], []]], [None, 1], blocks)
        self.assertGreater(bills(day)[0], 0)
        for house in (0, 1):
            for worths in itertools.product(range(1, 6), repeat=3):
                told = iter(worths)
                self.never_more(day, house, [next(told) if block[0] == house else None for block in blocks])

    def never_more(self, day, house, worths):
        has = kept_worth(day, house) - bills(day)[house]
        other = day
        for number, block in enumerate(day[4]):
            if block[0] == house:
                other = told_otherwise(other, number, worths[number])
        true = sum(day[4][number][4] for number in kept(other) if day[4][number][0] == house)
        self.assertLessEqual(true - bills(other)[house], has, (day, house, worths))

    def test_by_hand(self):
        blocks = [(2, 0, 0, None, 9), (5, 0, 0, 0, 6), (5, 0, 0, None, 4)]
        self.assertEqual(bills((1, [3], [[[0]]], [None], blocks)), [0, 0, 6, 0, 0, 0])
        self.assertEqual(bills((1, [3], [[[0]]], [7], blocks)), [0, 0, 7, 0, 0, 0])
        self.assertEqual(bills((1, [3], [[[0]]], [11], blocks)), [0] * 6)
        self.assertEqual(bills((1, [3], [[[0]]], [None], [])), [0] * 6)

    def test_less_than_the_prices_together(self):
        # Either of the two puts out nobody more than the other has put out already.
        blocks = [(0, 0, 0, None, 9), (0, 0, 0, None, 9), (1, 0, 0, None, 5)]
        day = (2, [1], [[[0], [0]]], [None], blocks)
        self.assertEqual((block_prices(day), bills(day)), ([5, 5, 5], [5, 0, 0, 0, 0, 0]))


if __name__ == "__main__":
    unittest.main()
