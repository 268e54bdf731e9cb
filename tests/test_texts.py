"""Point 21: days as texts, and texts read back."""

import random
import unittest

from skyprices.days import is_day
from skyprices.errors import NoDay, NoText, SkyError
from skyprices.texts import read_day, show_day
from tests import brute
from tests.samples import day_of, odd_things, places_in, put, running_day, small_day
from tests.writing import first_wrong, read_plainly, written

RUNNING = (
    "hours 4\n"
    "store 1\n"
    "store 2\n"
    "dish own 0,1 0,1 1 -\n"
    "dish 30 - 0 0,1 1\n"
    "block 0 0 0 - 100\n"
    "block 1 0 1 - 50\n"
    "block 2 1 0 - 70\n"
    "block 3 1 1 3 40\n"
    "block 4 1 0 - 60\n"
    "block 5 0 0 0 10"
)
SIGNS = " 0123456789-,\nabcdhioslkrtuwn;:.+_BX\t"


def days():
    return brute.small_days(150, 211) + brute.full_days(40, 212) + [running_day(), small_day()]


class TextTest(unittest.TestCase):
    def refused(self, text, at):
        with self.assertRaises(SkyError) as caught:
            read_day(text)
        self.assertIs(type(caught.exception), NoText, text)
        self.assertIsInstance(caught.exception, ValueError)
        self.assertEqual(caught.exception.at, at, text)
        self.assertIs(type(caught.exception.at), type(at))

    def as_told(self, text):
        """What the text is by the words of the point: read back, or refused with the row."""
        at = first_wrong(text)
        if at is not None:
            self.refused(text, at)
            return "row"
        day = read_plainly(text)
        if not is_day(day):
            self.refused(text, text.count("\n") + 1)
            return "whole"
        self.assertEqual(read_day(text), day)
        return "day"


class ShowTest(unittest.TestCase):
    def test_by_hand(self):
        self.assertEqual(show_day(running_day()), RUNNING)
        self.assertEqual(show_day((1, [0], [[[]]], [None], [])), "hours 1\nstore 0\ndish own -")
        self.assertEqual(
            show_day((1, [5, 0, 3], [[[0, 1, 2]], [[1]], [[]]], [999, 0, None], [(5, 2, 0, 0, 9999)])),
            "hours 1\nstore 5\nstore 0\nstore 3\ndish 999 0,1,2\ndish 0 1\ndish own -\nblock 5 2 0 0 9999",
        )

    def test_by_the_words_of_the_point(self):
        for day in days():
            self.assertEqual(show_day(day), written(day))
            self.assertIs(type(show_day(day)), str)

    def test_no_day(self):
        for thing in odd_things() + [RUNNING, day_of(hours=11), list(running_day()), (running_day(),)]:
            with self.assertRaises(SkyError) as caught:
                show_day(thing)
            self.assertIs(type(caught.exception), NoDay)
            self.assertIsInstance(caught.exception, ValueError)


class ReadTest(TextTest):
    def test_read_back_to_the_same_day(self):
        for day in days():
            text = show_day(day)
            told = read_day(text)
            self.assertEqual(told, day)
            self.assertIs(is_day(told), True)
            self.assertEqual(show_day(told), text)
            self.assertEqual([type(part) for _, part in places_in(told)], [type(part) for _, part in places_in(day)])

    def test_new_lists(self):
        told = [read_day(RUNNING) for _ in range(3)]
        lists = [part for _, part in places_in(told) if isinstance(part, list)]
        self.assertEqual(len({id(part) for part in lists}), len(lists))
        for row in told[0][2]:
            row.clear()
        told[0][4].clear()
        self.assertEqual(read_day(RUNNING), running_day())

    def test_each_bound_of_a_day(self):
        good = [
            "hours 10\nstore 5\ndish 999" + " 0" * 10,
            "hours 1\nstore 0\nstore 0\nstore 0\nstore 0\ndish 0 0,1,2,3\ndish own -\ndish own 3",
            "hours 2\nstore 1\ndish own - -" + "\nblock 5 0 1 1 9999" * 14,
            "hours 2\nstore 1\ndish own - -\nblock 0 0 0 - 1",
        ]
        for text in good:
            self.assertEqual(self.as_told(text), "day")
        wrong = [
            "hours 11\nstore 5\ndish 999" + " 0" * 11,
            "hours 0\nstore 1\ndish own",
            "hours 1\nstore 6\ndish own -",
            "hours 1\ndish own -",
            "hours 1" + "\nstore 1" * 5 + "\ndish own -",
            "hours 1\nstore 1",
            "hours 1\nstore 1" + "\ndish own -" * 4,
            "hours 1\nstore 1\ndish 1000 -",
            "hours 1\nstore 1\ndish own 1",
            "hours 1\nstore 1\nstore 1\ndish own 1,0",
            "hours 1\nstore 1\nstore 1\ndish own 0,0",
            "hours 2\nstore 1\ndish own 0",
            "hours 1\nstore 1\ndish own 0 0",
            "hours 1\nstore 1\ndish own",
            "hours 1\nstore 1\ndish own -\ndish 0",
            "hours 2\nstore 1\ndish own - -" + "\nblock 5 0 1 1 9999" * 15,
            "hours 2\nstore 1\ndish own - -\nblock 6 0 0 - 1",
            "hours 2\nstore 1\ndish own - -\nblock 0 1 0 - 1",
            "hours 2\nstore 1\ndish own - -\nblock 0 0 2 - 1",
            "hours 2\nstore 1\ndish own - -\nblock 0 0 1 0 1",
            "hours 2\nstore 1\ndish own - -\nblock 0 0 1 2 1",
            "hours 2\nstore 1\ndish own - -\nblock 0 0 0 - 0",
            "hours 1", "hours 9999", "hours 0", "hours 1\nblock 0 0 0 - 1", "hours 1\ndish own",
            "hours 9999\nstore 9999\ndish 9999 9999,9999 -\nblock 9999 9999 9999 9999 9999",
        ]
        for text in wrong:
            self.assertEqual(self.as_told(text), "whole", text)

    def test_rows_without_form(self):
        head = "hours 1\nstore 1\ndish own 0"
        rows = [
            "", " ", "  ", "-", "hours", "hours ", "hours -", "hours own", "hours 1 1", " hours 1", "hours 1 ",
            "hours  1", "hours\t1", "Hours 1", "hour 1", "hours1", "hours 01", "hours 00", "hours 10000", "hours 1,2",
            "hours +1", "hours -1", "hours 1.", "hours 1;", "hours 1_0", "hours a", "hours 0x1",
            "store", "store ", "store -", "store own", "store 00", "store 1 2", "store 12345", "stores 1", "store one",
            "dish", "dish ", "dish -", "dish own ", "dish own  0", "dish own 0 ", "dish  own 0", "dish own,0",
            "dish own 0,", "dish own ,0", "dish own ,", "dish own 0,,0", "dish own 0, 0", "dish own -,0",
            "dish own 0,-", "dish own --", "dish own own", "dish own 00", "dish own 0,01", "dish own 10000",
            "dish 10000 0", "dish 01 0", "dish none 0", "dish Own 0", "dish ow 0", "dish own 0\t0", "dish own 0;0",
            "block", "block 0 0 0 0", "block 0 0 0 - ", "block 0 0 0 - -", "block - 0 0 0 1", "block 0 - 0 0 1",
            "block 0 0 - 0 1", "block 0 0 0 - 1 1", "block 0 0 0  1", "block 0 0 0 own 1", "block 0 0 0 - 01",
            "block 00 0 0 - 1", "block 0 00 0 - 1", "block 0 0 00 - 1", "block 0 0 0 00 1", "block 0 0 0 - 10000",
            "block 10000 0 0 - 1", "block 0 0 0 10000 1", " block 0 0 0 - 1", "block 0 0 0 - 1 ", "block 0 0 0 -- 1",
            "block 0,0 0 0 - 1", "blocks 0 0 0 - 1", "pass 0 0 0 0", "own", "0", "day",
        ]
        for row in rows:
            with self.subTest(row=row):
                self.assertEqual(first_wrong(head + "\n" + row), 3)
                self.refused(row, 0)
                self.refused(head + "\n" + row, 3)
                self.refused(head + "\n" + row + "\nblock 0 0 0 - 1", 3)
                self.refused("hours 1\n" + row + "\nalso wrong", 1)

    def test_rows_at_a_wrong_place(self):
        hours, store, dish, block = "hours 1", "store 1", "dish own 0", "block 0 0 0 - 1"
        for rows, at in (
            ([store, dish], 0), ([dish], 0), ([block], 0), ([store, hours], 0), ([hours, hours], 1),
            ([hours, hours, store, dish], 1), ([hours, store, hours, dish], 2), ([hours, dish, store], 2),
            ([hours, store, dish, store], 3), ([hours, store, block, dish], 3), ([hours, block, store], 2),
            ([hours, store, dish, block, hours], 4), ([hours, store, dish, block, dish], 4),
            ([hours, store, dish, block, store, "wrong"], 4), ([hours, store, "wrong", store, hours], 2),
            ([hours, dish, block, store, dish], 3),
        ):
            self.assertEqual(first_wrong("\n".join(rows)), at)
            self.refused("\n".join(rows), at)

    def test_form_ahead_of_worth(self):
        # The numbers are no day's from the first row on, but the row without a form is told.
        self.refused("hours 99\nstore 99\ndish 9999 7\nblock 9 9 9 9", 3)
        self.refused("hours 99\nstore 99\ndish 9999 7\nblock 9 9 9 9 0", 4)

    def test_line_feeds(self):
        self.refused("", 0)
        self.refused("\n", 0)
        self.refused("\n" + RUNNING, 0)
        self.refused(RUNNING + "\n", 11)
        self.refused(RUNNING + "\n\n", 11)
        self.refused(RUNNING.replace("\n", "\n\n"), 1)
        self.refused("hours 1\n", 1)
        self.refused(RUNNING.replace("\n", ";"), 0)
        self.refused(RUNNING.replace("\n", " "), 0)

    def test_no_text(self):
        for thing in odd_things() + [running_day(), [RUNNING], RUNNING.split("\n"), RUNNING.encode(), 5]:
            if not isinstance(thing, str):
                self.refused(thing, None)
            else:
                self.refused(thing, 0)


class SpoiltTest(TextTest):
    """Texts of days with one sign or row put in, left out or exchanged."""

    def test_one_sign(self):
        chance = random.Random(213)
        seen = {"row": 0, "whole": 0, "day": 0}
        small = [(1, [0], [[[]]], [None], []), small_day(), (2, [1], [[[0], []]], [10], [(0, 0, 0, 1, 10)])]
        for day in small + chance.sample(brute.small_days(60, 214), 8):
            text = written(day)
            for at in range(len(text) + 1):
                seen[self.as_told(text[:at] + text[at + 1:])] += 1
                for sign in " 0,\n-1":
                    seen[self.as_told(text[:at] + sign + text[at:])] += 1
                    seen[self.as_told(text[:at] + sign + text[at + 1:])] += 1
                sign = chance.choice(SIGNS)
                seen[self.as_told(text[:at] + sign + text[at:])] += 1
                seen[self.as_told(text[:at] + sign + text[at + 1:])] += 1
        self.assertGreater(min(seen.values()), 200, seen)

    def test_signs_of_full_days(self):
        chance = random.Random(215)
        seen = {"row": 0, "whole": 0, "day": 0}
        for day in brute.full_days(30, 216):
            text = written(day)
            for _ in range(40):
                at = chance.randrange(len(text) + 1)
                sign = chance.choice(("", " ", "0", ",", "\n", "-", "9", chance.choice(SIGNS)))
                seen[self.as_told(text[:at] + sign + text[at + chance.choice((0, 1)):])] += 1
        self.assertGreater(min(seen.values()), 50, seen)

    def test_rows(self):
        chance = random.Random(217)
        seen = {"row": 0, "whole": 0, "day": 0}
        more = ["hours 3", "store 1", "store 9", "dish own", "dish 4 - 0", "block 0 0 0 - 1", "block 9 9 9 9 9", ""]
        for day in brute.small_days(120, 218) + brute.full_days(10, 219):
            rows = written(day).split("\n")
            for at in range(len(rows)):
                seen[self.as_told("\n".join(rows[:at] + rows[at + 1:]))] += 1
                seen[self.as_told("\n".join(rows[:at] + [chance.choice(more)] + rows[at:]))] += 1
                seen[self.as_told("\n".join(rows[:at] + [chance.choice(more)] + rows[at + 1:]))] += 1
                seen[self.as_told("\n".join(rows[:at] + [rows[at]] + rows[at:]))] += 1
                if at + 1 < len(rows):
                    seen[self.as_told("\n".join(rows[:at] + [rows[at + 1], rows[at]] + rows[at + 2:]))] += 1
            chance.shuffle(rows)
            seen[self.as_told("\n".join(rows))] += 1
        self.assertGreater(min(seen.values()), 200, seen)

    def test_numbers_of_a_day_changed(self):
        chance = random.Random(220)
        seen = {"row": 0, "whole": 0, "day": 0}
        for day in brute.small_days(40, 221) + brute.full_days(5, 222):
            for path, value in places_in(day):
                if type(value) is int:
                    for number in (0, value + 1, value + 10, chance.choice((9999, 10000, 999, 1000, -1))):
                        seen[self.as_told(written(put(day, path, number)))] += 1
        self.assertGreater(min(seen.values()), 100, seen)


if __name__ == "__main__":
    unittest.main()
