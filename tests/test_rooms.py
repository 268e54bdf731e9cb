"""Points 18, 19 and 20: Rooms led hour by hour, side by side with a Room that the test writes itself."""

import random
import unittest

from skyprices.days import gain_of, is_day, is_plan
from skyprices.errors import DayOver, NoBlock, NoDay, NoHour, SkyError, TooMany
from skyprices.kept import gain, kept, rented, rests
from skyprices.rooms import Room
from skyprices.ways import plan_for
from tests import brute
from tests.plain_room import PlainRoom, broken_hour, good_deeds, told_block
from tests.samples import day_of, fits, odd_things, running_day, single_passes

FEW = (1, 1, 2, 2, 3, 4, 9)
MANY = (1, 5, 20, 20, 21, 50, 400, 9999)


def kept_by_brute(day):
    return sorted(what for word, what, _, taken in brute.taken_in_order(day) if word == "block" and taken)


def rests_by_brute(day):
    return [what for word, what, _, taken in brute.taken_in_order(day) if word == "rest" and taken]


def told(room):
    return room.now(), room.left(), room.kept(), room.sent(), room.gain(), room.log(), len(room)


class Leading:
    """A Room and a plain one, led by the same deeds, and held together behind each."""

    def __init__(self, case, day, small):
        self.case, self.small = case, small
        self.room = Room(day)
        self.plain = PlainRoom(day, kept_by_brute if small else kept)
        self.seen = {}
        self.check()

    def check(self):
        room, plain, case = self.room, self.plain, self.case
        day, numbers = room.left()
        case.assertEqual((day, numbers), plain.left())
        case.assertIs(is_day(day), True)
        case.assertIs(type(room.left()), tuple)
        case.assertEqual(room.now(), plain.hour)
        case.assertEqual(room.sent(), plain.sent())
        case.assertEqual(room.kept(), plain.kept())
        case.assertEqual(room.gain(), plain.gain())
        case.assertEqual(room.log(), plain.deeds)
        case.assertEqual(len(room), len(plain.blocks))
        case.assertFalse([hour for _, hour in rented(day) if hour < room.now()])
        if self.small:
            # At each hour the kept blocks bring, less what is paid, as much as any plan could.
            worths = sum(plain.blocks[number][4] for number in set(room.kept()) - set(room.sent()))
            case.assertEqual(worths - sum(day[3][dish] for dish, _ in rented(day)), brute.most_gain(day))

    def deed(self, word):
        self.plain.deeds.extend([f"in {word}", f"out {word}"])
        self.seen[word] = self.seen.get(word, 0) + 1

    def count(self, word):
        self.seen[word] = self.seen.get(word, 0) + 1

    def tick(self):
        room, plain, case = self.room, self.plain, self.case
        before, (day, numbers) = room.kept(), room.left()
        passes = room.tick()
        self.deed("tick")
        self.check_passes(day, numbers, passes)
        plain.tick(passes)
        self.check()
        case.assertEqual(room.kept(), before)
        if not self.small:
            self.check_way(day, numbers, passes)

    def check_passes(self, day, numbers, passes):
        """These are the passes of this hour of a plan of just the kept ones and none of the rests."""
        case, hour = self.case, self.plain.hour
        case.assertIs(type(passes), list)
        case.assertEqual(passes, sorted(passes))
        for one in passes:
            case.assertEqual((type(one), len(one), one[0]), (tuple, 4, hour))
            case.assertIn(one[3], numbers)
        if self.small:
            wanted, resting = kept_by_brute(day), set(rests_by_brute(day))
            inner = [one[:3] + (numbers.index(one[3]),) for one in passes]
            case.assertTrue(any(
                sorted(one[3] for one in plan) == wanted and not resting & {(one[1], one[0]) for one in plan}
                and [one for one in plan if one[0] == hour] == inner
                for plan, _ in brute.plans_of(day)
            ))

    def check_way(self, day, numbers, passes):
        """Behind the passes the rest of such a plan can be led, by what is left now."""
        case = self.case
        now_left, now_numbers = self.room.left()
        later = plan_for(now_left, kept(now_left), rests=rests(now_left))
        case.assertIsNotNone(later)
        together = passes + [one[:3] + (now_numbers[one[3]],) for one in later]
        inner = [one[:3] + (numbers.index(one[3]),) for one in together]
        case.assertIs(is_plan(day, inner), True)
        case.assertEqual(sorted(one[3] for one in inner), kept(day))
        case.assertFalse({(one[1], one[0]) for one in inner} & set(rests(day)))
        case.assertEqual(gain_of(day, inner), gain(day))

    def broke(self, dish, hour):
        before = set(self.room.kept())
        self.case.assertIsNone(self.room.broke(dish, hour))
        self.deed("broke")
        self.plain.broke(dish, hour)
        self.check()
        after = set(self.room.kept())
        self.case.assertLessEqual(after, before)
        self.case.assertLessEqual(len(before - after), 1)
        if before != after:
            self.count("taken by broke")

    def tell(self, block):
        before, wanted = set(self.room.kept()), len(self.room)
        number = self.room.tell(block)
        self.deed("tell")
        self.case.assertEqual((number, self.plain.tell(block)), (wanted, wanted))
        self.check()
        after = set(self.room.kept())
        self.case.assertLessEqual(after, before | {number})
        self.case.assertLessEqual(len(before - after), 1)
        self.case.assertTrue(number in after or before == after)
        self.count("kept by tell" if number in after else "not kept by tell")
        if before - after:
            self.count("put out by tell")

    def strike(self, number):
        before = set(self.room.kept())
        self.case.assertIsNone(self.room.strike(number))
        self.deed("strike")
        self.plain.strike(number)
        self.check()
        after = set(self.room.kept())
        self.case.assertLessEqual(before - {number}, after)
        self.case.assertNotIn(number, after)
        self.case.assertLessEqual(len(after - before), 1)
        if after - before:
            self.count("brought back by strike")

    def refused(self, kind, word, *arguments):
        before = told(self.room)
        with self.case.assertRaises(SkyError) as caught:
            getattr(self.room, word)(*arguments)
        self.case.assertIs(type(caught.exception), kind, (word, arguments))
        self.case.assertIsInstance(caught.exception, ValueError)
        self.deed(word)
        self.case.assertEqual(told(self.room), before[:5] + (before[5] + [f"in {word}", f"out {word}"], before[6]))

    def at_random(self, chance, likely, worths):
        word = chance.choice([word for word in good_deeds(self.plain) for _ in range(likely[word])])
        if word == "tick":
            self.tick()
        elif word == "broke":
            self.broke(*broken_hour(chance, self.plain))
        elif word == "tell":
            self.tell(told_block(chance, self.plain, worths))
        else:
            self.strike(chance.choice(self.plain.left()[1]))

    def wrong_at_random(self, chance):
        hour, hours = self.plain.hour, self.plain.hours
        dishes, craft = len(self.plain.sights), len(self.plain.stores)
        word = chance.choice(("tick", "broke", "tell", "strike"))
        if word == "tick" and hour == hours:
            self.refused(DayOver, "tick")
        elif word == "broke":
            wrong = [(0, hours), (dishes, hour), (-1, hour), (0, None), (True, hour), (0, False), ("0", hour)]
            self.refused(NoHour, "broke", *chance.choice(wrong + [(0, gone) for gone in range(hour)]))
        elif word == "tell":
            wrong = [(0, 0, ready, None, 1) for ready in range(hour)] + [(0, 0, hours, None, 1), None, (), [0]]
            wrong.extend([(6, 0, hour, None, 1), (0, craft, hour, None, 1), (0, 0, hour, None, 0)])
            self.refused(NoBlock, "tell", chance.choice(wrong))
        elif word == "strike":
            numbers = self.plain.left()[1]
            gone = [number for number in range(len(self.room)) if number not in numbers]
            self.refused(NoBlock, "strike", chance.choice(gone + [len(self.room), -1, None, True, False, "0"]))

    def to_the_end(self):
        while self.room.now() < self.plain.hours:
            self.tick()
        room, plain, case = self.room, self.plain, self.case
        case.assertEqual(room.kept(), room.sent())
        case.assertEqual(room.left()[1], [])
        case.assertEqual(room.left()[0][4], [])
        case.assertTrue(all(not heard for row in room.left()[0][2] for heard in row))
        self.refused(DayOver, "tick")
        # All passes together are a plan of the day as it came to be.
        day = plain.day()
        case.assertEqual(plain.passes, sorted(plain.passes))
        case.assertLessEqual(set(plain.passes), set(single_passes(day)))
        case.assertIs(fits(day, plain.passes), True)
        if len(plain.blocks) <= 14:
            case.assertIs(is_plan(day, plain.passes), True)
            case.assertEqual(gain_of(day, plain.passes), room.gain())


class LedTest(unittest.TestCase):
    def lead(self, day, chance, small, likely, most, worths):
        leading = Leading(self, day, small)
        for _ in range(most):
            if not good_deeds(leading.plain):
                break
            if chance.random() < 0.25:
                leading.wrong_at_random(chance)
            if small and len(leading.plain.left()[1]) > 5:
                leading.strike(chance.choice(leading.plain.left()[1]))
            leading.at_random(chance, likely, worths)
        leading.to_the_end()
        leading.wrong_at_random(chance)
        return leading.seen

    def summed(self, rows):
        return {word: sum(row.get(word, 0) for row in rows) for word in {word for row in rows for word in row}}

    def test_without_deeds(self):
        for day in brute.small_days(150, 181):
            leading = Leading(self, day, True)
            leading.to_the_end()
            self.assertEqual(leading.room.sent(), kept(day))
            self.assertEqual(leading.room.gain(), brute.most_gain(day))
        for day in brute.full_days(15, 182):
            leading = Leading(self, day, False)
            leading.to_the_end()
            self.assertEqual((leading.room.sent(), leading.room.gain()), (kept(day), gain(day)))

    def test_small_days(self):
        chance = random.Random(183)
        likely = {"tick": 3, "broke": 2, "tell": 3, "strike": 1}
        days = brute.small_days(110, 184, blocks=4) + brute.small_days(
            110, 185, blocks=4, worths=(1, 2, 2, 3), asks=(None, 0, 1, 1, 2)
        )
        seen = self.summed([self.lead(day, chance, True, likely, 8, FEW) for day in days])
        for word in ("taken by broke", "put out by tell", "kept by tell", "not kept by tell", "brought back by strike"):
            self.assertGreater(seen[word], 15, seen)

    def test_full_days(self):
        chance = random.Random(186)
        likely = {"tick": 2, "broke": 4, "tell": 4, "strike": 3}
        days = brute.full_days(22, 187)
        seen = self.summed([self.lead(day, chance, False, likely, 45, MANY) for day in days])
        for word in ("taken by broke", "put out by tell", "kept by tell", "not kept by tell", "brought back by strike"):
            self.assertGreater(seen[word], 15, seen)

    def test_all_hours_break(self):
        for day in brute.full_days(3, 188):
            leading = Leading(self, day, False)
            leading.tick()
            chance = random.Random(189)
            hours = [(dish, hour) for dish in range(3) for hour in range(1, 10)]
            chance.shuffle(hours)
            for dish, hour in hours:
                leading.broke(dish, hour)
                leading.broke(dish, hour)
            self.assertEqual(leading.room.kept(), leading.room.sent())
            leading.to_the_end()


class LeftTest(unittest.TestCase):
    """Point 18 by hand."""

    def test_at_the_beginning(self):
        room = Room(running_day())
        self.assertEqual(room.left(), (running_day(), [0, 1, 2, 3, 4, 5]))
        self.assertEqual((room.now(), room.kept(), room.sent(), room.gain()), (0, [0, 1, 2, 3, 4], [], 0))
        self.assertEqual((room.log(), len(room)), ([], 6))

    def test_no_blocks(self):
        day = (1, [0], [[[]]], [None], [])
        room = Room(day)
        self.assertEqual((room.left(), room.kept(), len(room)), ((day, []), [], 0))
        self.assertEqual(room.tick(), [])
        self.assertEqual(room.left(), (day, []))

    def test_ready_at_now(self):
        blocks = [
            (0, 0, 0, None, 9), (1, 0, 0, 2, 8), (2, 0, 2, None, 7), (3, 0, 1, 1, 6), (4, 0, 0, 0, 1), (5, 0, 2, 2, 5),
        ]
        # Nobody hears anything at hour 0, at hour 1 or 2 there is room for some.
        day = (4, [1], [[[], [0], [0], [0]]], [None], blocks)
        room = Room(day)
        self.assertEqual(room.kept(), [0, 1, 2])
        self.assertEqual(room.tick(), [])
        # Block 0 is aboard, block 1 waits, block 4 is behind its due; what is not kept may still be sent.
        self.assertEqual(room.left(), (
            (4, [1], [[[], [0], [0], [0]]], [None],
             [(0, 0, 1, None, 9), (1, 0, 1, 2, 8), (2, 0, 2, None, 7), (3, 0, 1, 1, 6), (5, 0, 2, 2, 5)]),
            [0, 1, 2, 3, 5],
        ))
        self.assertEqual(room.kept(), [0, 1, 2])
        done = room.tick()
        self.assertEqual(len(done), 1)
        self.assertEqual(room.left()[0][2], [[[], [], [0], [0]]])
        self.assertEqual(room.sent(), [done[0][3]])
        self.assertIn(done[0][3], (0, 1))
        self.assertNotIn(3, room.left()[1])
        self.assertEqual(room.kept(), [0, 1, 2])

    def test_behind_the_last_hour(self):
        room = Room(running_day())
        for _ in range(4):
            room.tick()
        hours, stores, sights, asks, blocks = running_day()
        self.assertEqual(room.left(), ((4, stores, [[[]] * 4] * 2, asks, []), []))
        self.assertEqual((room.kept(), room.sent(), room.now()), ([0, 1, 2, 3, 4], [0, 1, 2, 3, 4], 4))
        self.assertEqual(room.gain(), 260)

    def test_broken_hours_stay_broken(self):
        room = Room(running_day())
        room.broke(0, 2)
        room.broke(1, 3)
        sights = [[[0, 1], [0, 1], [], []], [[], [0], [0, 1], []]]
        self.assertEqual(room.left()[0][2], sights)
        room.tick()
        room.broke(0, 1)
        self.assertEqual(room.left()[0][2], [[[], [], [], []], [[], [0], [0, 1], []]])


class DeedsTest(unittest.TestCase):
    """Point 19 by hand."""

    def two_aboard(self):
        """A Room at hour 1 with two blocks aboard, and two hours to send them."""
        leading = Leading(self, (3, [2], [[[], [0], [0]]], [None], [(0, 0, 0, None, 9), (0, 0, 0, None, 5)]), True)
        leading.tick()
        self.assertEqual((leading.room.kept(), leading.room.left()[1]), ([0, 1], [0, 1]))
        return leading

    def test_a_broken_hour_takes_one_that_is_lost_at_the_tick(self):
        leading = self.two_aboard()
        leading.broke(0, 2)
        self.assertEqual((leading.room.kept(), leading.room.left()[1]), ([0], [0, 1]))
        self.assertEqual(leading.room.tick(), [(1, 0, 0, 0)])
        self.assertEqual((leading.room.kept(), leading.room.left()[1]), ([0], []))

    def test_what_is_aboard_yet_comes_back(self):
        leading = self.two_aboard()
        leading.broke(0, 2)
        leading.strike(0)
        self.assertEqual(leading.room.kept(), [1])
        self.assertEqual(leading.room.tick(), [(1, 0, 0, 1)])

    def test_what_is_not_kept_when_it_is_made_is_lost(self):
        leading = Leading(self, (3, [0], [[[0], [0], [0]]], [None], [(0, 0, 0, None, 5), (0, 0, 0, None, 9)]), True)
        leading.tick()
        self.assertEqual((leading.room.sent(), leading.room.left()[1]), ([1], []))
        leading.refused(NoBlock, "strike", 0)

    def test_what_is_made_later_is_not_lost_yet(self):
        blocks = [(0, 0, 2, None, 5), (0, 0, 2, None, 9)]
        leading = Leading(self, (3, [0], [[[0], [0], [0]]], [None], blocks), True)
        leading.tick()
        self.assertEqual((leading.room.kept(), leading.room.left()[1]), ([1], [0, 1]))
        leading.tick()
        leading.strike(1)
        self.assertEqual(leading.room.tick(), [(2, 0, 0, 0)])

    def test_numbers_of_told_blocks(self):
        leading = Leading(self, running_day(), False)
        leading.tell((0, 0, 0, None, 1))
        leading.tick()
        leading.tell((5, 1, 1, 3, 9999))
        leading.strike(7)
        leading.tell((5, 1, 3, 3, 9999))
        self.assertEqual(len(leading.room), 9)
        leading.to_the_end()
        self.assertIn(8, leading.room.sent())

    def test_tick_behind_the_last_hour(self):
        leading = Leading(self, running_day(), False)
        leading.to_the_end()
        for _ in range(3):
            leading.refused(DayOver, "tick")

    def test_broke_is_refused(self):
        leading = Leading(self, running_day(), False)
        for hour in range(5):
            for gone in range(hour):
                leading.refused(NoHour, "broke", 0, gone)
                leading.refused(NoHour, "broke", 1, gone)
            wrong = [(2, hour), (-1, hour), (0, 4), (0, -1), (0, 10**14), (True, hour), (False, hour), (0, True)]
            wrong.extend([(0, False), ("0", hour), (0, "3"), (None, hour), (0, None), ([0], hour), (0, [3]), (0, ())])
            for dish, broken in wrong:
                leading.refused(NoHour, "broke", dish, broken)
            for thing in odd_things():
                leading.refused(NoHour, "broke", thing, hour)
                leading.refused(NoHour, "broke", 0, thing)
            if hour < 4:
                leading.broke(1, hour)
                leading.broke(0, 3)
                leading.tick()
        leading.refused(NoHour, "broke", 0, 3)

    def test_tell_is_refused(self):
        leading = Leading(self, running_day(), False)
        for hour in range(5):
            wrong = [(0, 0, ready, due, 1) for ready in range(hour) for due in (None, ready, 3)]
            wrong.extend([
                (6, 0, 3, None, 1), (-1, 0, 3, None, 1), (0, 2, 3, None, 1), (0, -1, 3, None, 1), (0, 0, 4, None, 1),
                (0, 0, -1, None, 1), (0, 0, 3, 2, 1), (0, 0, 3, 4, 1), (0, 0, 3, None, 0), (0, 0, 3, None, 10000),
                (True, 0, 3, None, 1), (0, False, 3, None, 1), (0, 0, True, None, 1), (0, 0, 3, True, 1),
                (0, 0, 3, None, True), [0, 0, 3, None, 1], (0, 0, 3, None), (0, 0, 3, None, 1, 1), "00301",
            ])
            for block in wrong + odd_things():
                leading.refused(NoBlock, "tell", block)
            if hour < 4:
                leading.tell((0, 0, hour, None, 1))
                leading.tick()
        leading.refused(NoBlock, "tell", (0, 0, 3, None, 1))

    def test_too_many_left(self):
        leading = Leading(self, day_of(hours=3, blocks=[(0, 0, 2, None, 1)] * 13), False)
        leading.tell((0, 0, 1, 1, 5))
        for _ in range(2):
            leading.refused(TooMany, "tell", (0, 0, 2, None, 9999))
            leading.refused(NoBlock, "tell", (0, 0, 3, None, 9999))
        leading.strike(4)
        leading.tell((0, 0, 2, None, 7))
        leading.refused(TooMany, "tell", (0, 0, 2, None, 9999))
        leading.tick()
        leading.refused(TooMany, "tell", (0, 0, 2, None, 9999))
        # Block 13 goes up at hour 1, and so there is room for one.
        leading.tick()
        leading.tell((0, 0, 2, 2, 8))
        leading.refused(TooMany, "tell", (0, 0, 2, None, 9999))
        leading.refused(NoBlock, "tell", (0, 0, 1, None, 9999))
        leading.to_the_end()
        self.assertEqual(leading.room.sent(), [13, 15])

    def test_twenty_numbers(self):
        leading = Leading(self, day_of(hours=3, blocks=[(0, 0, 0, None, 1)] * 14), False)
        for number in range(7):
            leading.strike(number)
        for number in range(14, 20):
            leading.tell((0, 0, 1, None, 1))
        self.assertEqual((len(leading.room), len(leading.room.left()[1])), (20, 13))
        for _ in range(2):
            leading.refused(TooMany, "tell", (0, 0, 2, None, 9999))
            leading.refused(NoBlock, "tell", (0, 1, 2, None, 9999))
        for number in range(7, 20):
            leading.strike(number)
        leading.refused(TooMany, "tell", (0, 0, 2, None, 9999))
        leading.tick()
        leading.refused(TooMany, "tell", (0, 0, 2, None, 9999))
        leading.refused(NoBlock, "tell", (0, 0, 0, None, 9999))

    def test_strike_is_refused(self):
        blocks = [(0, 0, 0, None, 9), (0, 0, 0, None, 8), (0, 0, 0, 0, 1), (0, 0, 2, None, 1), (0, 0, 2, None, 1)]
        leading = Leading(self, (3, [0], [[[0], [], [0]]], [None], blocks), True)
        for thing in [5, 6, -1, -5, 10**14, "0", (0,), [0]] + odd_things():
            leading.refused(NoBlock, "strike", thing)
        leading.strike(3)
        leading.refused(NoBlock, "strike", 3)
        leading.tick()
        # Block 0 is sent, 1 lost, 2 behind its due, 3 struck.
        for number in (0, 1, 2, 3):
            leading.refused(NoBlock, "strike", number)
        # No truth is a number, though 1 is one of a block that is left.
        leading.strike(4)
        leading.to_the_end()
        for number in range(6):
            leading.refused(NoBlock, "strike", number)

    def test_a_truth_is_no_number_that_is_left(self):
        leading = Leading(self, running_day(), False)
        self.assertEqual(leading.room.left()[1][:2], [0, 1])
        leading.refused(NoBlock, "strike", True)
        leading.refused(NoBlock, "strike", False)
        leading.strike(1)

    def test_an_up_block_may_be_struck_till_its_due(self):
        day = (3, [0], [[[], [], []]], [None], [(0, 0, 0, 1, 9), (0, 0, 0, 1, 9)])
        leading = Leading(self, day, True)
        leading.tick()
        leading.strike(0)
        leading.tick()
        leading.refused(NoBlock, "strike", 1)

    def test_no_day(self):
        for thing in odd_things() + [day_of(hours=11), list(running_day()), [running_day()]]:
            with self.assertRaises(SkyError) as caught:
                Room(thing)
            self.assertIs(type(caught.exception), NoDay)
            self.assertIsInstance(caught.exception, ValueError)


class ToldTest(unittest.TestCase):
    """Point 20."""

    def test_the_log_by_hand(self):
        room = Room(running_day())
        room.tick()
        room.kept(), room.left(), room.sent(), room.gain(), room.now(), len(room), room.log()
        room.broke(0, 1)
        for word, arguments in (("broke", (0, 0)), ("tell", (None,)), ("strike", (99,))):
            with self.assertRaises(SkyError):
                getattr(room, word)(*arguments)
        room.tell((0, 0, 2, None, 1))
        room.strike(6)
        for _ in range(3):
            room.tick()
        with self.assertRaises(DayOver):
            room.tick()
        words = ["tick", "broke", "broke", "tell", "strike", "tell", "strike", "tick", "tick", "tick", "tick"]
        self.assertEqual(room.log(), [text for word in words for text in (f"in {word}", f"out {word}")])

    def test_gain_with_what_is_asked(self):
        day = (2, [1], [[[0], []], [[], [0]]], [2, 5], [(0, 0, 0, None, 9), (1, 0, 0, 0, 8)])
        # Either goes out at hour 0 and what is kept for hour 1 pays 5.
        room = Room(day)
        self.assertEqual(room.gain(), 0)
        self.assertEqual(room.tick(), [(0, 0, 0, 1)])
        self.assertEqual(room.gain(), 6)
        self.assertEqual(room.tick(), [(1, 1, 0, 0)])
        self.assertEqual(room.gain(), 10)

    def test_gain_of_what_is_done_alone(self):
        # The hour that is rented brings least, but the greater block can't come sooner.
        day = (2, [0], [[[0], []], [[], [0]]], [3, None], [(0, 0, 0, None, 4), (1, 0, 1, None, 9)])
        room = Room(day)
        self.assertEqual((room.gain(), room.kept()), (0, [0, 1]))
        room.tick()
        self.assertEqual((room.gain(), room.kept()), (1, [0, 1]))
        room.tick()
        self.assertEqual((room.gain(), room.kept()), (10, [0, 1]))

    def test_sent_rises_by_number(self):
        blocks = [(0, 0, 2, None, 1), (0, 0, 1, None, 1), (0, 0, 0, None, 1)]
        room = Room((3, [0], [[[0]] * 3], [None], blocks))
        for wanted in ([2], [1, 2], [0, 1, 2]):
            room.tick()
            self.assertEqual(room.sent(), wanted)


if __name__ == "__main__":
    unittest.main()
