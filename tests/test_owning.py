"""Point 2, for Rooms and Desks: how they are asked, and whose the answers are."""

import copy
import inspect
import random
import unittest

from skyprices.desk import Desk
from skyprices.errors import NoRow, SkyError
from skyprices.rooms import Room
from tests import brute
from tests.plain_room import PlainRoom, broken_hour, good_deeds, told_block
from tests.samples import places_in, running_day
from tests.writing import written

METHODS = {
    "tick": [], "broke": ["dish", "hour"], "tell": ["block"], "strike": ["number"], "now": [], "left": [],
    "kept": [], "sent": [], "gain": [], "log": [],
}


def told(room):
    return room.now(), room.left(), room.kept(), room.sent(), room.gain(), room.log(), len(room)


def spoil(thing):
    """Change every list in the thing."""
    for _, part in list(places_in(thing)):
        if isinstance(part, list):
            part.append("spoilt")
            part.reverse()


def deeds(day, seed):
    """Some deeds that are good for a Room of the day, each a word and its arguments."""
    chance = random.Random(seed)
    plain, found = PlainRoom(day, lambda left: []), []
    while plain.hour < plain.hours:
        word = chance.choice(good_deeds(plain))
        if word == "strike":
            # Which are left hangs on what was kept: those that were never made are left surely.
            later = [number for number in plain.left()[1] if plain.blocks[number][2] > plain.hour]
            if not later:
                continue
            arguments = (chance.choice(later),)
        else:
            arguments = {
                "tick": lambda: (), "broke": lambda: broken_hour(chance, plain),
                "tell": lambda: (told_block(chance, plain, (1, 9, 20, 9999)),),
            }[word]()
        getattr(plain, word)(*(arguments if word != "tick" else ([],)))
        found.append((word, arguments))
    return found


def done(room, word, arguments):
    """What the deed tells, or the class of the refusal."""
    try:
        return getattr(room, word)(*arguments)
    except SkyError as refusal:
        return type(refusal)


class InterfaceTest(unittest.TestCase):
    def test_a_room(self):
        self.assertEqual(list(inspect.signature(Room).parameters), ["day"])
        self.assertEqual(Room.__module__, "skyprices.rooms")
        for name, wanted in METHODS.items():
            self.assertTrue(inspect.isfunction(vars(Room)[name]))
            found = inspect.signature(vars(Room)[name]).parameters
            self.assertEqual(list(found), ["self"] + wanted)
            for one in found.values():
                self.assertEqual((one.kind, one.default), (one.POSITIONAL_OR_KEYWORD, one.empty))
        self.assertIn("__len__", vars(Room))

    def test_a_desk(self):
        self.assertEqual(list(inspect.signature(Desk).parameters), [])
        self.assertEqual(Desk.__module__, "skyprices.desk")
        self.assertEqual(list(inspect.signature(vars(Desk)["names"]).parameters), ["self"])
        self.assertEqual(list(inspect.signature(vars(Desk)["say"]).parameters), ["self", "row"])

    def test_by_names_in_any_order(self):
        room = Room(day=running_day())
        room.broke(hour=1, dish=0)
        room.broke(dish=1, hour=3)
        self.assertEqual(room.tell(block=(0, 0, 0, None, 1)), 6)
        room.strike(number=6)
        other = Room(running_day())
        other.broke(0, 1)
        other.broke(1, 3)
        other.tell((0, 0, 0, None, 1))
        other.strike(6)
        self.assertEqual(told(room), told(other))
        desk = Desk()
        self.assertEqual(desk.say(row="day a " + written(running_day()).replace("\n", ";")), "ok")
        with self.assertRaises(NoRow):
            desk.say(row=None)


class RoomTest(unittest.TestCase):
    def days(self):
        return brute.small_days(40, 231) + brute.full_days(6, 232)

    def test_what_is_handed_in_stays(self):
        for day in self.days():
            before = copy.deepcopy(day)
            room = Room(day)
            for word, arguments in deeds(day, 233):
                told(room)
                done(room, word, arguments)
            self.assertEqual(day, before)

    def test_the_handed_day_changed(self):
        for day in self.days():
            own, room = Room(copy.deepcopy(day)), Room(day)
            rows = deeds(day, 234)
            spoil(list(day))
            for word, arguments in rows:
                self.assertEqual(told(room), told(own))
                self.assertEqual(done(room, word, arguments), done(own, word, arguments))
            self.assertEqual(told(room), told(own))

    def test_everything_told_changed(self):
        for day in self.days():
            own, room = Room(day), Room(day)
            for word, arguments in deeds(day, 235):
                for _ in range(2):
                    spoil(list(told(room)))
                self.assertEqual(told(room), told(own))
                answer = done(room, word, arguments)
                self.assertEqual(answer, done(own, word, arguments))
                spoil(answer)
            self.assertEqual(told(room), told(own))

    def test_no_two_told_are_one(self):
        for day in self.days():
            room, answers = Room(day), [day]
            for word, arguments in deeds(day, 236):
                answers.extend([told(room), told(room), done(room, word, arguments)])
            answers.append(told(room))
            lists = [part for _, part in places_in(answers) if isinstance(part, list)]
            self.assertEqual(len({id(part) for part in lists}), len(lists))

    def test_a_day_whose_lists_are_one(self):
        heard = [0]
        row = [heard, heard]
        day = (2, [1], [row, row], [None, None], [(0, 0, 0, None, 3)])
        room = Room(day)
        room.broke(0, 1)
        self.assertEqual(room.left()[0][2], [[[0], []], [[0], [0]]])
        room.left()[0][2][1][0].append(5)
        self.assertEqual(room.left()[0][2], [[[0], []], [[0], [0]]])
        self.assertEqual((heard, row), ([0], [[0], [0]]))

    def test_asked_again(self):
        for day in self.days():
            rows = deeds(day, 237)
            first = []
            room = Room(day)
            for word, arguments in rows:
                self.assertEqual(told(room), told(room))
                first.append((done(room, word, arguments), told(room)))
            again = Room(day)
            # Neither what is asked between nor another Room changes what is told.
            self.assertEqual([(done(again, word, arguments), told(again)) for word, arguments in rows], first)
            plain = Room(day)
            self.assertEqual([done(plain, word, arguments) for word, arguments in rows], [row[0] for row in first])

    def test_two_rooms_of_one_day_apart(self):
        day = running_day()
        one, other, third = Room(day), Room(day), Room(day)
        one.tick()
        one.broke(0, 1)
        one.tell((0, 0, 1, None, 9999))
        one.strike(6)
        self.assertEqual(told(other), told(third))
        self.assertEqual(told(other), (0, (running_day(), [0, 1, 2, 3, 4, 5]), [0, 1, 2, 3, 4], [], 0, [], 6))
        of_left = Room(one.left()[0])
        of_left.broke(0, 3)
        self.assertEqual(one.left()[0][2][0], [[], [], [1], []])
        self.assertEqual(len(of_left), len(one.left()[1]))


class DeskTest(unittest.TestCase):
    def test_asked_again(self):
        rows = ["show a", "kept a", "gain a", "rented a", "price a dish 0 1", "prices a", "bills a", "lost a 0 1"]
        desk, other = Desk(), Desk()
        for one in (desk, other):
            one.say("day a " + written(running_day()).replace("\n", ";"))
        first = [desk.say(row) for row in rows]
        for _ in range(2):
            self.assertEqual([desk.say(row) for row in rows], first)
            self.assertEqual([other.say(row) for row in reversed(rows)], first[::-1])
            self.assertEqual(desk.names(), ["a"])


if __name__ == "__main__":
    unittest.main()
