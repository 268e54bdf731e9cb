"""Points 22 and 23: the desk, held against the functions of the other modules."""

import random
import re
import unittest

from skyprices.changes import broken, goes_by
from skyprices.desk import Desk
from skyprices.errors import NoBlock, NoHour, NoName, NoPlace, NoRow, NoText, NoWorth, SkyError
from skyprices.houses import bills, block_prices, told_otherwise
from skyprices.kept import gain, kept, rented
from skyprices.prices import places_of, price_of
from skyprices.texts import read_day
from tests import brute
from tests.samples import day_of, odd_things, put, running_day, small_day
from tests.writing import written

NAME = "[a-z]{1,8}"
NUMBER = "(?:0|[1-9][0-9]{0,3})"
# What a row is, in the test's own words.
ROW = re.compile(
    f"day {NAME} [^\n\t]*"
    f"|(?:drop|show|kept|gain|rented|prices|bills) {NAME}"
    f"|(?:break|worth|lost) {NAME} {NUMBER} {NUMBER}"
    f"|price {NAME} (?:store|radio|dish) {NUMBER} {NUMBER}"
)
LOST = (1, [0, 0], [[[0, 1]]], [None], [(0, 0, 0, None, 9), (1, 1, 0, 0, 4)])
NOTHING = (1, [0], [[[]]], [5], [])


def as_text(day):
    return written(day).replace("\n", ";")


def with_blanks(things):
    return " ".join(map(str, things)) or "none"


class DeskTest(unittest.TestCase):
    def desk(self, **days):
        desk = Desk()
        for name, day in days.items():
            self.assertEqual(desk.say(f"day {name} {as_text(day)}"), "ok")
        return desk

    def full_desk(self):
        return self.desk(b=running_day(), abcdefgh=small_day(), a=LOST, ab=NOTHING)

    def standing(self, desk):
        return {name: desk.say(f"show {name}") for name in desk.names()}

    def refused(self, kind, desk, row):
        before = self.standing(desk)
        with self.assertRaises(SkyError) as caught:
            desk.say(row)
        self.assertIs(type(caught.exception), kind, row)
        self.assertIsInstance(caught.exception, ValueError)
        self.assertEqual(self.standing(desk), before, row)
        return caught.exception


class NamesTest(DeskTest):
    def test_rising(self):
        desk = Desk()
        self.assertEqual(desk.names(), [])
        for name in ("b", "abcdefgh", "a", "z", "ab", "ba"):
            desk.say(f"day {name} {as_text(LOST)}")
        self.assertEqual(desk.names(), ["a", "ab", "abcdefgh", "b", "ba", "z"])
        desk.say("drop ab")
        self.assertEqual(desk.names(), ["a", "abcdefgh", "b", "ba", "z"])

    def test_the_asker_s_own(self):
        desk = self.full_desk()
        first, second = desk.names(), desk.names()
        self.assertIsNot(first, second)
        first.clear()
        second.append("c")
        self.assertEqual(desk.names(), ["a", "ab", "abcdefgh", "b"])
        self.assertEqual(desk.say("kept a"), "0")

    def test_all_small_letters(self):
        desk = Desk()
        for letter in "abcdefghijklmnopqrstuvwxyz":
            self.assertEqual(desk.say(f"day {letter} {as_text(LOST)}"), "ok")
        self.assertEqual(desk.names(), list("abcdefghijklmnopqrstuvwxyz"))

    def test_words_of_rows_as_names(self):
        desk = Desk()
        for name in ("day", "drop", "show", "none", "store", "own"):
            desk.say(f"day {name} {as_text(LOST)}")
            self.assertEqual(desk.say(f"gain {name}"), "9")
        desk.say("drop drop")
        self.assertEqual(desk.names(), ["day", "none", "own", "show", "store"])

    def test_two_desks_apart(self):
        one, other = self.full_desk(), self.full_desk()
        before = self.standing(other)
        one.say("drop a")
        one.say("break b 0 0")
        one.say(f"day ab {as_text(LOST)}")
        self.assertEqual(self.standing(other), before)


class GoodRowsTest(DeskTest):
    def check_all(self, desk, name, day):
        """All that can be asked of the day that stands by the name."""
        self.assertEqual(desk.say(f"show {name}"), as_text(day))
        self.assertEqual(desk.say(f"kept {name}"), with_blanks(kept(day)))
        self.assertEqual(desk.say(f"gain {name}"), str(gain(day)))
        self.assertEqual(desk.say(f"rented {name}"), with_blanks([f"{dish}:{hour}" for dish, hour in rented(day)]))
        self.assertEqual(desk.say(f"prices {name}"), with_blanks(block_prices(day)))
        self.assertEqual(desk.say(f"bills {name}"), with_blanks(bills(day)))
        for place in places_of(day):
            word, number, hour = place
            self.assertEqual(desk.say(f"price {name} {word} {number} {hour}"), str(price_of(day, place)))
        for dish in range(len(day[2])):
            for hour in range(day[0]):
                goes = goes_by(day, dish, hour)
                self.assertEqual(desk.say(f"lost {name} {dish} {hour}"), with_blanks(goes or []))

    def test_all_that_is_asked(self):
        desk = self.full_desk()
        for name, day in (("b", running_day()), ("abcdefgh", small_day()), ("a", LOST), ("ab", NOTHING)):
            self.check_all(desk, name, day)

    def test_many_days(self):
        desk = Desk()
        for at, day in enumerate(brute.small_days(60, 221) + brute.full_days(4, 222)):
            name = "abc"[at % 3]
            self.assertEqual(desk.say(f"day {name} {as_text(day)}"), "ok")
            self.check_all(desk, name, day)

    def test_by_hand(self):
        desk = self.full_desk()
        self.assertEqual(
            desk.say("show b"),
            "hours 4;store 1;store 2;dish own 0,1 0,1 1 -;dish 30 - 0 0,1 1;block 0 0 0 - 100;block 1 0 1 - 50;"
            "block 2 1 0 - 70;block 3 1 1 3 40;block 4 1 0 - 60;block 5 0 0 0 10",
        )
        for row, told in (
            ("kept b", "0 1 2 3 4"), ("gain b", "260"), ("rented b", "1:2 1:3"), ("price b store 0 1", "30"),
            ("prices b", "30 30 30 30 30 30"), ("bills b", "30 30 30 30 30 0"), ("lost b 0 1", "rest 1 1"),
            ("lost b 1 0", "none"), ("kept ab", "none"), ("rented ab", "none"), ("prices ab", "none"),
            ("bills ab", "0 0 0 0 0 0"), ("gain ab", "0"), ("rented a", "none"), ("kept a", "0"), ("prices a", "4 4"),
            ("price a dish 0 0", "4"), ("price a radio 0 0", "4"), ("price a radio 1 0", "4"),
            ("price a store 1 0", "0"), ("lost a 0 0", "block 0"), ("bills a", "4 0 0 0 0 0"), ("gain a", "9"),
        ):
            self.assertEqual(desk.say(row), told, row)
            self.assertIs(type(desk.say(row)), str)

    def test_gain_of_nothing(self):
        dear = put(put(LOST, (3, 0), 10), (4, 0, 4), 10)
        self.assertEqual(self.desk(a=dear).say("gain a"), "0")
        self.assertEqual(self.desk(a=dear).say("kept a"), "none")

    def test_many_figures_told(self):
        day = day_of(hours=10, blocks=[(0, 0, hour, None, 9999) for hour in range(10)])
        self.assertEqual(self.desk(a=day).say("gain a"), "99990")

    def test_day_in_the_place_of_what_stood(self):
        desk = self.full_desk()
        self.assertEqual(desk.say(f"day b {as_text(small_day())}"), "ok")
        self.check_all(desk, "b", small_day())
        self.assertEqual(desk.names(), ["a", "ab", "abcdefgh", "b"])
        self.check_all(desk, "a", LOST)

    def test_drop(self):
        desk = self.full_desk()
        self.assertEqual(desk.say("drop a"), "ok")
        self.assertEqual(desk.names(), ["ab", "abcdefgh", "b"])
        for row in ("drop a", "show a", "break a 0 0"):
            self.refused(NoName, desk, row)
        self.assertEqual(desk.say(f"day a {as_text(NOTHING)}"), "ok")
        self.check_all(desk, "a", NOTHING)

    def test_break(self):
        desk = self.full_desk()
        day = running_day()
        for dish, hour in ((0, 1), (1, 3), (0, 3), (0, 1)):
            self.assertEqual(desk.say(f"break b {dish} {hour}"), "ok")
            day = broken(day, dish, hour)
            self.check_all(desk, "b", day)
        self.check_all(desk, "abcdefgh", small_day())

    def test_worth(self):
        desk = self.full_desk()
        day = running_day()
        for number, worth in ((0, 1), (5, 9999), (5, 31), (2, 70)):
            self.assertEqual(desk.say(f"worth b {number} {worth}"), "ok")
            day = told_otherwise(day, number, worth)
            self.check_all(desk, "b", day)

    def test_what_is_asked_changes_nothing(self):
        desk = self.full_desk()
        before = self.standing(desk)
        for _ in range(2):
            self.check_all(desk, "b", running_day())
            desk.names()
        self.assertEqual(self.standing(desk), before)

    def test_many_rows(self):
        chance = random.Random(223)
        for day in brute.small_days(25, 224, blocks=4) + brute.full_days(2, 225):
            desk = self.desk(a=day, b=day)
            stood = {"a": day, "b": day}
            for _ in range(6):
                name = chance.choice("ab")
                own = stood[name]
                if own[4] and chance.random() < 0.5:
                    number, worth = chance.randrange(len(own[4])), chance.choice((1, 2, 3, 4, 9999))
                    self.assertEqual(desk.say(f"worth {name} {number} {worth}"), "ok")
                    stood[name] = told_otherwise(own, number, worth)
                else:
                    dish, hour = chance.randrange(len(own[2])), chance.randrange(own[0])
                    self.assertEqual(desk.say(f"break {name} {dish} {hour}"), "ok")
                    stood[name] = broken(own, dish, hour)
                for each in stood:
                    self.assertEqual(desk.say(f"show {each}"), as_text(stood[each]))
                    self.assertEqual(desk.say(f"kept {each}"), with_blanks(kept(stood[each])))


class NoRowTest(DeskTest):
    def test_rows_that_are_none(self):
        desk = self.full_desk()
        rows = [
            "", " ", "  ", "day", "day ", "day a", "day  ", "day  a hours 1", " day a x", "Day a x", "day A x",
            "day a1 x",
            "day abcdefghi x", "day a\tx", "day a x\ty", "day a x\ny", "day a x\n", "day a_b x", "days a x", "daya x",
            "day a-b x", "day\ta x", "day a;x", "day 1 x",
            "drop", "drop ", "drop a ", " drop a", "drop  a", "drop a b", "drop a 0", "drop A", "drop abcdefghi",
            "drop a\n", "\ndrop a", "drop\ta", "Drop a", "DROP a", "drop 0", "drops a", "dropa", "drop a,b",
            "break", "break a", "break a 0", "break a 0 0 0", "break a 0  0", "break a  0 0", "break  a 0 0",
            "break a 0 0 ", " break a 0 0", "break a 00 0", "break a 0 00", "break a 01 0", "break a 0 01",
            "break a 10000 0", "break a 0 10000", "break a -1 0", "break a 0 -1", "break a - 0", "break a x 0",
            "break a 0 x", "break a 0,0", "break a 0 0\n", "break a 0\t0", "break a 0\n0", "break 0 0 a", "broke a 0 0",
            "break a +1 0", "break a 0 1.", "break a 0 ", "break a 1_0 0",
            "worth a", "worth a 0", "worth a 0 1 1", "worth a 0 01", "worth a 0 10000", "worth a 10000 1",
            "worth a 0 -1", "worth a  0 1", "worth a 0  1", "worth a 0 1 ", "worth a zero 1", "worth a 0 -",
            "show", "show ", "show a ", "show  a", "show a a", "show a\n", "Show a", "show A", "show a;",
            "kept", "kept ", "kept a b", "kept a ", "kept  a", "keep a", "gain", "gain ", "gain a 0", "gains a",
            "rented", "rented a 0", "rented a 0 0", "rent a", "rented  a", "prices", "prices a 0", "prices a store 0 0",
            "bills", "bills a 0", "bill a", "bills  a", "bills a ",
            "price", "price a", "price a store", "price a store 0", "price a store 0 0 0", "price a block 0 0",
            "price a rest 0 0", "price a Store 0 0", "price a stores 0 0", "price a 0 0 0", "price a 0 0",
            "price a store 00 0", "price a store 0 00", "price a store 0 10000", "price a store 10000 0",
            "price  a store 0 0", "price a  store 0 0", "price a store  0 0", "price a store 0  0",
            "price a store 0 0 ",
            "price a store 0 0\n", "price a store 0\t0", "price a store -1 0", "price a store 0 -", "price store 0 0",
            "price a dish 0:0", "price a store,0,0", "price a  0 0",
            "lost", "lost a", "lost a 0", "lost a 0 0 0", "lost a 0:0", "lost a 0  0", "lost a 0 0 ", "lost a 00 0",
            "lost a 0 00", "lost a 0 10000", "lost a -1 0", "loses a 0 0", "lost  a 0 0",
            "names", "names a", "tick a", "say a", "hours 1", "a", "0", "none", "ok", ";", "kept a;gain a",
        ]
        for row in rows:
            with self.subTest(row=row):
                self.assertIsNone(ROW.fullmatch(row))
                self.refused(NoRow, desk, row)
                # Also where no day stands by any name, and so ahead of NoName.
                self.refused(NoRow, Desk(), row)

    def test_no_text_at_all(self):
        desk = self.full_desk()
        for thing in odd_things() + [["drop a"], ("drop", "a"), b"drop a", {"drop": "a"}, running_day(), 5]:
            self.refused(NoRow, desk, thing)

    def test_one_sign_spoilt(self):
        """Each sign of good rows put in, left out or exchanged: NoRow just where it is none."""
        chance = random.Random(226)
        rows = [
            f"day a {as_text(NOTHING)}", "drop a", "break a 0 0", "worth a 0 10", "show a", "kept a", "gain abcdefgh",
            "rented a", "price a store 0 0", "price b radio 1 3", "price a dish 0 0", "prices a", "bills a",
            "lost b 1 2",
        ]
        seen = {True: 0, False: 0}
        for row in rows:
            self.assertIsNotNone(ROW.fullmatch(row))
            for at in range(len(row) + 1):
                for sign in ("", " ", "0", "a", "\t", "\n", "s", "A", "1", ";", chance.choice("-,:+.bcdez_B59")):
                    for cut in (0, 1):
                        spoilt = row[:at] + sign + row[at + cut:]
                        good = ROW.fullmatch(spoilt) is not None
                        seen[good] += 1
                        self.assertIs(self.is_row(spoilt), good, spoilt)
        self.assertGreater(min(seen.values()), 300, seen)

    def is_row(self, row):
        try:
            self.full_desk_copy().say(row)
        except NoRow:
            return False
        except SkyError:
            return True
        return True

    def full_desk_copy(self):
        desk = Desk()
        for name, day in (("a", NOTHING), ("b", running_day()), ("abcdefgh", LOST)):
            desk.say(f"day {name} {as_text(day)}")
        return desk


class RefusalTest(DeskTest):
    """The order of point 23."""

    def test_no_name(self):
        desk = self.full_desk()
        for row in (
            "drop c", "break c 0 0", "worth c 0 1", "show c", "kept c", "gain c", "rented c", "price c store 0 0",
            "prices c", "bills c", "lost c 0 0", "show abcdefg", "show aa", "show bb", "show abc",
            # Wrong in what comes behind the name, too.
            "break c 9999 9999", "worth c 99 0", "price c dish 9999 9999", "lost c 9 9",
        ):
            self.refused(NoName, desk, row)
            self.refused(NoName, Desk(), row)

    def test_day_by_a_name_that_does_not_stand(self):
        desk = Desk()
        self.refused(NoText, desk, "day c ")
        self.assertEqual(desk.names(), [])
        self.assertEqual(desk.say(f"day c {as_text(LOST)}"), "ok")
        self.assertEqual(desk.names(), ["c"])

    def test_no_text(self):
        desk = self.full_desk()
        for text, at in (
            ("", 0), (" ", 0), ("x", 0), (";", 0), ("hours 1", 1), ("hours 1;", 1), ("hours 1;store 1", 2),
            ("hours 1;store 1;dish own -;", 3), (" hours 1;store 1;dish own -", 0), ("hours 1 ;store 1;dish own -", 0),
            ("hours 1; store 1;dish own -", 1), ("hours 1;store 1;dish own - ", 2), ("hours 1;store 1;dish own  -", 2),
            ("hours 1;;store 1;dish own -", 1), ("hours 2;store 1;dish own -", 3), ("hours 11;store 1;dish own -", 3),
            ("hours 1;store 1;dish own -;block 0 0 0 - 0", 4), ("hours 1,store 1,dish own -", 0),
            ("hours 1;dish own -;store 1", 2), ("none", 0), ("a hours 1", 0),
        ):
            for name in ("a", "c"):
                refusal = self.refused(NoText, desk, f"day {name} {text}")
                self.assertEqual(refusal.at, at, text)
                with self.assertRaises(NoText) as caught:
                    read_day(text.replace(";", "\n"))
                self.assertEqual(caught.exception.at, at)
        self.assertNotIn("c", desk.names())

    def test_no_place(self):
        desk = self.full_desk()
        for row in (
            "price a store 2 0", "price a store 0 1", "price a radio 2 0", "price a radio 0 1", "price a dish 1 0",
            "price a dish 0 1", "price b store 2 0", "price b dish 2 0", "price b store 0 4", "price b radio 9999 9999",
        ):
            self.refused(NoPlace, desk, row)
        # A place of one day and not of the other.
        self.assertEqual(desk.say("price b store 1 3"), str(price_of(running_day(), ("store", 1, 3))))
        self.refused(NoPlace, desk, "price ab store 1 0")

    def test_as_the_stages_refuse(self):
        desk = self.full_desk()
        for row in (
            "break a 1 0", "break a 0 1", "break b 2 0", "break b 0 4", "break b 9999 9999", "lost a 1 0",
            "lost a 0 1", "lost b 2 3", "lost b 1 4",
        ):
            self.refused(NoHour, desk, row)
        for row in ("worth b 6 1", "worth b 9999 9999", "worth a 2 1", "worth ab 0 1", "worth b 6 0"):
            self.refused(NoBlock, desk, row)
        for row in ("worth b 5 0", "worth a 0 0"):
            self.refused(NoWorth, desk, row)

    def test_refused_rows_change_nothing_later(self):
        desk = self.full_desk()
        for row in ("day b hours 1", "break b 9 9", "worth b 0 0", "drop bb", "drop b ", "price b dish 9 9"):
            with self.assertRaises(SkyError):
                desk.say(row)
        self.assertEqual(desk.say("show b"), as_text(running_day()))
        self.assertEqual(desk.say("gain b"), "260")
        self.assertEqual(desk.names(), ["a", "ab", "abcdefgh", "b"])


if __name__ == "__main__":
    unittest.main()
