"""Point 3 over the whole program: small days against all plans, hour by hour, and full days by what shows itself."""

import random
import unittest

from skyprices.changes import broken, puts_out, told_anew
from skyprices.days import gain_of, is_plan
from skyprices.desk import Desk
from skyprices.houses import bills, block_prices
from skyprices.kept import best_plan, gain, kept, lost_paper, rented
from skyprices.prices import prices, shows_best
from skyprices.rooms import Room
from skyprices.texts import read_day, show_day
from skyprices.ways import bars
from tests import brute
from tests.plain_room import PlainRoom, broken_hour, good_deeds, told_block
from tests.samples import single_passes


def most_from(day, passes, hour):
    """The greatest gain of all plans of the day that have just these passes ahead of the hour."""
    return max(gain for plan, gain in brute.plans_of(day) if [one for one in plan if one[0] < hour] == passes)


class SmallTest(unittest.TestCase):
    def greatest(self, room):
        """What is kept brings, less what is asked, as much as any choice of what is left."""
        day, numbers = room.left()
        left = [number for number in room.kept() if number not in room.sent()]
        self.assertLessEqual(set(left), set(numbers))
        worths = sum(day[4][numbers.index(number)][4] for number in left)
        paid = sum(day[3][dish] for dish, _ in rented(day))
        rows = brute.plans_of(day)
        self.assertEqual(worths - paid, max(gain for _, gain in rows), day)
        # Some plan has just these blocks, and brings just that.
        self.assertTrue(any(
            sorted(numbers[one[3]] for one in plan) == left and gain == worths - paid for plan, gain in rows
        ))
        return worths - paid

    def test_hour_by_hour_without_deeds(self):
        """Whatever of the plan is done, no plan that has done the same could bring more."""
        for day in brute.small_days(150, 311) + brute.small_days(100, 312, worths=(1, 2, 2, 3), asks=(0, 1, 1, 2)):
            room, passes = Room(day), []
            for hour in range(day[0] + 1):
                most = room.gain() + self.greatest(room)
                self.assertEqual(most, brute.most_gain(day))
                self.assertEqual(most, most_from(day, passes, hour))
                self.assertEqual(room.kept(), kept(day))
                if hour < day[0]:
                    passes.extend(room.tick())
            self.assertIs(is_plan(day, passes), True)
            self.assertEqual((room.gain(), gain_of(day, passes)), (brute.most_gain(day),) * 2)

    def test_hour_by_hour_with_deeds(self):
        chance = random.Random(313)
        ended = 0
        for day in brute.small_days(160, 314, blocks=4):
            room, plain = Room(day), PlainRoom(day, kept)
            for _ in range(9):
                self.greatest(room)
                words = [word for word in good_deeds(plain) if word != "tell" or len(plain.left()[1]) < 6]
                if not words:
                    ended += 1
                    break
                self.deed(room, plain, chance.choice(words + ["tick"] * words.count("tick")), chance)
                self.assertEqual(room.left(), plain.left())
        self.assertGreater(ended, 10)

    def deed(self, room, plain, word, chance):
        if word == "tick":
            before = room.gain() + self.greatest(room)
            plain.tick(room.tick())
            # What goes by loses nothing.
            self.assertEqual(room.gain() + self.greatest(room), before)
        elif word == "broke":
            dish, hour = broken_hour(chance, plain)
            room.broke(dish, hour)
            plain.broke(dish, hour)
        elif word == "tell":
            block = told_block(chance, plain, (1, 2, 3, 4, 9))
            self.assertEqual(room.tell(block), plain.tell(block))
        else:
            number = chance.choice(plain.left()[1])
            room.strike(number)
            plain.strike(number)

    def test_worths_told_otherwise_hour_by_hour(self):
        """In what is left a kept block is kept by any worth above its price, and lost by any below."""
        for day in brute.small_days(60, 315):
            room = Room(day)
            for _ in range(day[0]):
                left, numbers = room.left()
                found = block_prices(left)
                for at in kept(left):
                    house, craft, ready, due, _ = left[4][at]
                    for worth in {found[at] + 1, max(1, found[at] - 1)} - {found[at]}:
                        blocks = left[4][:at] + [(house, craft, ready, due, worth)] + left[4][at + 1:]
                        self.assertIs(at in kept(left[:4] + (blocks,)), worth > found[at])
                room.tick()


class FullTest(unittest.TestCase):
    """Full days: prices show at each hour that no plan brings more, papers that what is lost can't be had."""

    def shown(self, day):
        plan, told = best_plan(day), prices(day)
        self.assertIs(is_plan(day, plan), True)
        self.assertEqual(gain_of(day, plan), gain(day))
        self.assertIs(shows_best(day, plan, told), True)
        found = block_prices(day)
        for number, block in enumerate(day[4]):
            if number in kept(day):
                self.assertGreaterEqual(block[4], found[number])
            else:
                self.assertLessEqual(block[4], found[number])
                ahead = [other for other in kept(day) if (-day[4][other][4], other) < (-block[4], number)]
                resting = [
                    rest for rest in brute.dish_hours(day)
                    if rest not in rented(day) and day[3][rest[0]] >= block[4]
                ]
                with_it = sorted(ahead + [number])
                self.assertIs(bars(day, with_it, lost_paper(day, number), rests=resting), True)
        for house, bill in enumerate(bills(day)):
            together = sum(found[number] for number in kept(day) if day[4][number][0] == house)
            self.assertTrue(0 <= bill <= together)

    def test_hour_by_hour(self):
        chance = random.Random(316)
        for day in brute.full_days(8, 317):
            room = Room(day)
            passes = []
            for hour in range(10):
                self.shown(room.left()[0])
                for _ in range(2):
                    room.broke(chance.randrange(3), chance.randrange(hour, 10))
                self.shown(room.left()[0])
                passes.extend(room.tick())
            self.assertLessEqual(set(passes), set(single_passes(day)))
            self.assertIs(is_plan(day, passes), True)
            self.assertEqual(gain_of(day, passes), room.gain())
            self.assertEqual(room.kept(), room.sent())


class TogetherTest(unittest.TestCase):
    """The same day by a Room, by the changes, by its text and at the desk."""

    def test_changes_and_rooms(self):
        chance = random.Random(318)
        for day in brute.full_days(6, 319):
            day = day[:4] + (day[4][:12],)
            room = Room(day)
            for _ in range(8):
                dish, hour = chance.randrange(3), chance.randrange(10)
                day = broken(day, dish, hour)
                room.broke(dish, hour)
                self.assertEqual(room.left(), (day, list(range(len(day[4])))))
                self.assertEqual(room.kept(), kept(day))
            for _ in range(2):
                block = (0, chance.randrange(4), chance.randrange(10), None, 500)
                keeps, gone = puts_out(day, block)
                before = room.kept()
                day = told_anew(day, block)
                number = room.tell(block)
                self.assertEqual(room.left()[0], day)
                self.assertIs(number in room.kept(), keeps)
                wanted = [gone[1]] if gone and gone[0] == "block" else []
                self.assertEqual([other for other in before if other not in room.kept()], wanted)

    def test_texts_and_the_desk(self):
        desk = Desk()
        for day in brute.full_days(4, 320):
            room = Room(day)
            for _ in range(10):
                left, numbers = room.left()
                self.assertEqual(read_day(show_day(left)), left)
                self.assertEqual(desk.say("day left " + show_day(left).replace("\n", ";")), "ok")
                self.assertEqual(desk.say("gain left"), str(gain(left)))
                inner = [str(at) for at, number in enumerate(numbers) if number in room.kept()]
                self.assertEqual(desk.say("kept left"), " ".join(inner) or "none")
                room.tick()


if __name__ == "__main__":
    unittest.main()
