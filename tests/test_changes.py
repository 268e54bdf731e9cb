"""Points 16 and 17: what a broken hour and a block told anew change."""

import copy
import itertools
import random
import unittest

from skyprices.changes import broken, falls, goes_by, puts_out, told_anew
from skyprices.days import is_day
from skyprices.errors import NoBlock, NoDay, NoHour, SkyError, TooMany
from skyprices.kept import gain, kept, rests
from skyprices.prices import prices
from tests import brute
from tests.samples import day_of, odd_things, places_in, put, running_day, small_day, swapped

ALIKE = {"worths": (1, 1, 2, 2, 3), "asks": (None, 0, 1, 1, 2, 2)}
FULL = brute.full_days(12, 401)


def days():
    return brute.small_days(120, 161) + brute.small_days(120, 162, **ALIKE)


def hours_of(day):
    """All dish hours, our own and other rooms'."""
    return list(itertools.product(range(len(day[2])), range(day[0])))


def taken_by_brute(day):
    """The taken things of point 9, found among all plans."""
    return {
        ("block", what) if word == "block" else ("rest",) + what
        for word, what, _, fits in brute.taken_in_order(day) if fits
    }


def taken(day):
    return {("block", number) for number in kept(day)} | {("rest",) + rest for rest in rests(day)}


def some_block(chance, day):
    """A block that fits the day."""
    ready = chance.randrange(day[0])
    due = chance.choice((None, chance.randrange(ready, day[0])))
    worth = chance.choice([1, 2, 3, 9999] + [block[4] for block in day[4]] + [block[4] + 1 for block in day[4][:1]])
    return (chance.randrange(6), chance.randrange(len(day[1])), ready, due, min(9999, worth))


class RefusalTest(unittest.TestCase):
    def refused(self, kind, asking, *arguments):
        with self.assertRaises(SkyError) as caught:
            asking(*arguments)
        self.assertIs(type(caught.exception), kind, (asking, arguments))
        self.assertIsInstance(caught.exception, ValueError)


class BrokenTest(RefusalTest):
    """Point 16: the day."""

    def test_just_this_hour(self):
        for day in days() + FULL + [running_day(), small_day()]:
            for dish, hour in hours_of(day):
                told = broken(day, dish, hour)
                self.assertEqual(told, put(day, (2, dish, hour), []))
                self.assertIs(is_day(told), True)

    def test_by_hand(self):
        day = (2, [1], [[[0], [0]], [[], [0]]], [None, 3], [(0, 0, 0, None, 9)])
        self.assertEqual(broken(day, 0, 1), (2, [1], [[[0], []], [[], [0]]], [None, 3], [(0, 0, 0, None, 9)]))
        self.assertEqual(broken(day, 1, 1), (2, [1], [[[0], [0]], [[], []]], [None, 3], [(0, 0, 0, None, 9)]))
        # Nobody was heard there anyway.
        self.assertEqual(broken(day, 1, 0), day)
        self.assertEqual(broken(broken(day, 0, 0), 0, 0), broken(day, 0, 0))

    def test_new_lists_all_through(self):
        heard = [0, 1]
        row = [heard, heard]
        day = (2, [1, 1], [row, row], [None, None], [(0, 0, 0, None, 3)])
        told = broken(day, 0, 1)
        self.assertEqual(told[2], [[[0, 1], []], [[0, 1], [0, 1]]])
        self.assertEqual(heard, [0, 1])
        lists = [part for _, part in places_in(told) if isinstance(part, list)]
        self.assertEqual(len({id(part) for part in lists}), len(lists))
        self.assertNotIn(id(heard), {id(part) for part in lists})
        self.assertNotIn(id(row), {id(part) for part in lists})
        for at in (1, 2, 3, 4):
            self.assertIsNot(told[at], day[at])

    def test_no_hour(self):
        day = running_day()
        wrong = [
            (2, 0), (-1, 0), (10**14, 0), (0, 4), (1, 4), (0, -1), (0, 10**14), (True, 0), (False, 0), (0, True),
            (0, False), ("0", 0), (0, "0"), (None, 0), (0, None), ([0], 0), (0, [0]), ((0, 0), 0), (0, (0, 0)),
            ({}, 0), (0, {}), (b"0", 0), (2, 4), (None, None),
        ]
        for dish, hour in wrong + [(thing, 0) for thing in odd_things()] + [(0, thing) for thing in odd_things()]:
            for asking in (broken, goes_by):
                self.refused(NoHour, asking, day, dish, hour)
        self.assertEqual(day, running_day())

    def test_no_hour_at_the_edges_of_each_day(self):
        for day in FULL[:2] + brute.small_days(20, 163):
            for asking in (broken, goes_by):
                asking(day, len(day[2]) - 1, day[0] - 1)
                self.refused(NoHour, asking, day, len(day[2]), 0)
                self.refused(NoHour, asking, day, 0, day[0])

    def test_no_day(self):
        for thing in odd_things() + [day_of(hours=11), list(running_day()), [running_day()]]:
            for dish, hour in ((0, 0), (9, 9), (None, None)):
                self.refused(NoDay, broken, thing, dish, hour)
                self.refused(NoDay, goes_by, thing, dish, hour)
            self.refused(NoDay, falls, thing)


class GoesTest(unittest.TestCase):
    """Point 16: what goes."""

    def check(self, day, dish, hour, before, after):
        goes = goes_by(day, dish, hour)
        own = {("rest", dish, hour)}
        self.assertLessEqual(after - own, before - own, (day, dish, hour))
        gone = before - after - own
        self.assertLessEqual(len(gone), 1, (day, dish, hour))
        self.assertEqual(goes, next(iter(gone), None), (day, dish, hour))
        self.assertIs(type(goes), tuple if gone else type(None))
        return goes[0] if goes else None

    def test_against_all_plans(self):
        seen = {"block": 0, "rest": 0, None: 0}
        for day in days():
            before = taken_by_brute(day)
            for dish, hour in hours_of(day):
                after = taken_by_brute(put(day, (2, dish, hour), []))
                seen[self.check(day, dish, hour, before, after)] += 1
        self.assertGreater(min(seen.values()), 50, seen)

    def test_full_days(self):
        seen = {"block": 0, "rest": 0, None: 0}
        for day in FULL:
            before = taken(day)
            for dish, hour in hours_of(day):
                after = taken(put(day, (2, dish, hour), []))
                seen[self.check(day, dish, hour, before, after)] += 1
        self.assertGreater(min(seen.values()), 10, seen)

    def test_one_hour_after_the_other(self):
        for day in FULL[:4]:
            chance = random.Random(402)
            hours = hours_of(day)
            chance.shuffle(hours)
            for dish, hour in hours:
                after = broken(day, dish, hour)
                self.check(day, dish, hour, taken(day), taken(after))
                day = after
            self.assertEqual((kept(day), gain(day)), ([], 0))

    def test_by_hand(self):
        # Block 0 has hour 0 of our own dish; hour 1 could be rented for 3.
        day = (2, [1], [[[0], []], [[], [0]]], [None, 3], [(0, 0, 0, None, 9), (0, 0, 0, 0, 2)])
        self.assertEqual(kept(day), [0])
        self.assertEqual(goes_by(day, 0, 0), ("rest", 1, 1))
        self.assertIsNone(goes_by(day, 0, 1))
        self.assertIsNone(goes_by(day, 1, 0))
        # The rest of the broken hour means nothing any more.
        self.assertIsNone(goes_by(day, 1, 1))
        dear = put(day, (3, 1), 10)
        self.assertEqual(goes_by(dear, 0, 0), ("block", 0))
        rented = broken(day, 0, 0)
        self.assertEqual((kept(rented), rests(rented)), ([0], [(1, 0)]))
        self.assertEqual(goes_by(rented, 1, 1), ("block", 0))

    def test_the_lesser_goes(self):
        day = (1, [0, 0], [[[0, 1]], [[0, 1]]], [None, None], [(0, 0, 0, None, 5), (0, 1, 0, None, 4)])
        self.assertEqual(goes_by(day, 0, 0), ("block", 1))
        self.assertEqual(goes_by(day, 1, 0), ("block", 1))
        # Of alike worth the later goes.
        self.assertEqual(goes_by(put(day, (4, 1, 4), 5), 0, 0), ("block", 1))
        self.assertEqual(goes_by(put(day, (4, 1, 4), 6), 0, 0), ("block", 0))


class FallsTest(unittest.TestCase):
    """Point 16: which hours are worth most."""

    def test_against_all_plans(self):
        some = 0
        for day in days():
            told = falls(day)
            self.assertIs(type(told), dict)
            self.assertEqual(sorted(told), hours_of(day))
            most = brute.most_gain(day)
            for dish, hour in told:
                wanted = most - brute.most_gain(put(day, (2, dish, hour), []))
                self.assertEqual(told[dish, hour], wanted, (day, dish, hour))
                self.assertIs(type(told[dish, hour]), int)
                some += wanted > 0
        self.assertGreater(some, 100)

    def test_at_least_the_price_less_what_is_asked(self):
        more = 0
        for day in days() + FULL:
            told, found = falls(day), prices(day)
            for dish, hour in told:
                least = found["dish", dish, hour] - (day[3][dish] or 0)
                self.assertGreaterEqual(told[dish, hour], least, (day, dish, hour))
                self.assertGreaterEqual(told[dish, hour], 0)
                more += told[dish, hour] > max(0, least)
        self.assertGreater(more, 50)

    def test_full_days(self):
        for day in FULL:
            told = falls(day)
            self.assertEqual(list(told), hours_of(day))
            for dish, hour in told:
                self.assertEqual(told[dish, hour], gain(day) - gain(put(day, (2, dish, hour), [])))

    def test_by_hand(self):
        day = (2, [1], [[[0], []], [[], [0]]], [None, 3], [(0, 0, 0, None, 9)])
        self.assertEqual(falls(day), {(0, 0): 3, (0, 1): 0, (1, 0): 0, (1, 1): 0})
        self.assertEqual(falls(broken(day, 0, 0)), {(0, 0): 0, (0, 1): 0, (1, 0): 0, (1, 1): 6})
        self.assertEqual(falls((1, [0], [[[]]], [None], [])), {(0, 0): 0})


class AnewTest(RefusalTest):
    """Point 17: the day."""

    def test_at_the_end(self):
        chance = random.Random(171)
        for day in days():
            block = some_block(chance, day)
            told = told_anew(day, block)
            self.assertEqual(told, day[:4] + (day[4] + [block],))
            self.assertIs(is_day(told), True)
            for at in (1, 2, 3, 4):
                self.assertIsNot(told[at], day[at])

    def test_each_bound(self):
        day = (4, [0, 0, 0], [[[]] * 4], [None], [])
        good = [
            (0, 0, 0, None, 1), (5, 2, 3, None, 9999), (0, 0, 3, 3, 1), (0, 0, 0, 3, 1), (0, 0, 0, 0, 1),
            (3, 1, 2, 3, 5000),
        ]
        for block in good:
            self.assertEqual(told_anew(day, block)[4], [block])
        wrong = [
            (6, 0, 0, None, 1), (-1, 0, 0, None, 1), (0, 3, 0, None, 1), (0, -1, 0, None, 1), (0, 0, 4, None, 1),
            (0, 0, -1, None, 1), (0, 0, 2, 1, 1), (0, 0, 0, 4, 1), (0, 0, 0, -1, 1), (0, 0, 0, None, 0),
            (0, 0, 0, None, 10000), (0, 0, 0, None, -1), (0, 0, 0, None), (0, 0, 0, None, 1, 1), (0, 0, 0, 1), (),
        ]
        for block in wrong:
            self.refused(NoBlock, told_anew, day, block)
            self.refused(NoBlock, puts_out, day, block)

    def test_other_kinds(self):
        block = (0, 1, 1, 1, 1)
        for thing in odd_things() + [swapped(block), [block], (block,), {0: block}, "00001", 0, 5]:
            self.refused(NoBlock, told_anew, running_day(), thing)
            self.refused(NoBlock, puts_out, running_day(), thing)
        self.assertEqual(told_anew(running_day(), block)[4][-1], block)
        for at in range(5):
            for thing in [True, False, "1", [1], (1,), {}, b"1"] + ([None] if at != 3 else []):
                self.refused(NoBlock, told_anew, running_day(), put(block, (at,), thing))

    def test_too_many(self):
        for many in range(15):
            day = day_of(blocks=[(0, 0, 0, None, 1)] * many)
            for asking in (told_anew, puts_out):
                if many < 14:
                    asking(day, (0, 0, 0, None, 1))
                else:
                    self.refused(TooMany, asking, day, (0, 0, 0, None, 1))
                # What is no block is so, too, where there would be too many.
                self.refused(NoBlock, asking, day, (0, 0, 0, None, 0))
                self.refused(NoBlock, asking, day, None)

    def test_no_day(self):
        for thing in odd_things() + [day_of(hours=11), day_of(blocks=[(0, 0, 0, None, 1)] * 15)]:
            for block in ((0, 0, 0, None, 1), None):
                self.refused(NoDay, told_anew, thing, block)
                self.refused(NoDay, puts_out, thing, block)


class PutsOutTest(unittest.TestCase):
    """Point 17: what goes."""

    def check(self, day, block, before, after):
        told = puts_out(day, block)
        self.assertIs(type(told), tuple)
        new = {("block", len(day[4]))}
        self.assertLessEqual(after, before | new, (day, block))
        gone = before - after
        self.assertLessEqual(len(gone), 1, (day, block))
        self.assertEqual(told, (new <= after, next(iter(gone), None)), (day, block))
        self.assertIs(type(told[0]), bool)
        return told[0], told[1][0] if told[1] else None

    def test_against_all_plans(self):
        chance = random.Random(172)
        seen = {(True, "block"): 0, (True, "rest"): 0, (True, None): 0, (False, None): 0}
        for day in days():
            before = taken_by_brute(day)
            for _ in range(3):
                block = some_block(chance, day)
                after = taken_by_brute(day[:4] + (day[4] + [block],))
                seen[self.check(day, block, before, after)] += 1
        self.assertGreater(min(seen.values()), 20, seen)

    def test_full_days(self):
        chance = random.Random(173)
        seen = {(True, "block"): 0, (True, "rest"): 0, (True, None): 0, (False, None): 0}
        for day in FULL:
            day = day[:4] + (day[4][:13],)
            for _ in range(12):
                block = some_block(chance, day)
                seen[self.check(day, block, taken(day), taken(day[:4] + (day[4] + [block],)))] += 1
        self.assertGreater(seen[True, "block"] * seen[True, None] * seen[False, None], 0, seen)

    def test_by_hand(self):
        day = (1, [0], [[[0]]], [3], [(0, 0, 0, None, 5)])
        self.assertEqual(puts_out(day, (1, 0, 0, 0, 6)), (True, ("block", 0)))
        # Of alike worth the earlier stays.
        self.assertEqual(puts_out(day, (1, 0, 0, 0, 5)), (False, None))
        self.assertEqual(puts_out(put(day, (4,), []), (1, 0, 0, 0, 4)), (True, ("rest", 0, 0)))
        self.assertEqual(puts_out(put(day, (4,), []), (1, 0, 0, 0, 3)), (False, None))
        self.assertEqual(puts_out(put(put(day, (4,), []), (3, 0), None), (1, 0, 0, None, 1)), (True, None))

    def test_nothing_is_changed(self):
        day = running_day()
        before = copy.deepcopy(day)
        puts_out(day, (0, 0, 0, None, 9999))
        told_anew(day, (0, 0, 0, None, 9999))
        goes_by(day, 0, 0)
        broken(day, 0, 0)
        falls(day)
        self.assertEqual(day, before)


if __name__ == "__main__":
    unittest.main()
