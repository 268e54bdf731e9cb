"""A Room, in which a day is led hour by hour, whatever breaks or is told on the way."""

from skyprices.days import MOST_BLOCKS, copy_of_day, gain_of_passes, is_block, is_number, need_day
from skyprices.errors import DayOver, NoBlock, NoHour, TooMany
from skyprices.kept import best_plan, taken_things
from skyprices.places import is_dish_hour
from skyprices.things import numbers_in

MOST_NUMBERS = 20


class Room:
    """A day at an hour of it, with all that has broken and was told, struck, sent and lost so far."""

    def __init__(self, day):
        need_day(day)
        # Its sights are those that have not broken, its blocks all that the Room has numbers for.
        self._day = copy_of_day(day)
        self._hour = 0
        self._passes = []
        # The numbers of the blocks that were sent, struck or lost.
        self._away = []
        self._deeds = []

    def __len__(self):
        """How many numbers the Room has."""
        return len(self._day[4])

    def tick(self):
        """Do the passes of this hour, and tell them; what is not kept by then is lost."""
        self._deeds.append("in tick")
        try:
            return self._send()
        finally:
            self._deeds.append("out tick")

    def broke(self, dish, hour):
        """The dish hears nobody at this hour any more."""
        self._deeds.append("in broke")
        try:
            self._break(dish, hour)
        finally:
            self._deeds.append("out broke")

    def tell(self, block):
        """A block is told: its number in the Room."""
        self._deeds.append("in tell")
        try:
            return self._take_in(block)
        finally:
            self._deeds.append("out tell")

    def strike(self, number):
        """The block of this number is wanted no more."""
        self._deeds.append("in strike")
        try:
            self._take_out(number)
        finally:
            self._deeds.append("out strike")

    def now(self):
        """The hour that comes next."""
        return self._hour

    def left(self):
        """What is left of the day, as a day of its own, and the numbers in the Room of its blocks."""
        hours, stores, sights, asks, blocks = copy_of_day(self._day)
        ahead = [[heard if hour >= self._hour else [] for hour, heard in enumerate(sight)] for sight in sights]
        numbers = self._numbers_left()
        return (hours, stores, ahead, asks, [self._block_left(number) for number in numbers]), numbers

    def kept(self):
        """The numbers of the blocks that were sent, or are kept in what is left, rising."""
        day, numbers = self.left()
        return sorted(self.sent() + [numbers[at] for at in numbers_in(taken_things(day))])

    def sent(self):
        """The numbers of the blocks that were sent so far, rising."""
        return sorted([number for hour, dish, craft, number in self._passes])

    def gain(self):
        """The gain of the passes done so far."""
        return gain_of_passes(self._day, self._passes)

    def log(self):
        """The deeds so far, each as it began and as it ended."""
        return list(self._deeds)

    def _send(self):
        hours, stores, sights, asks, blocks = self._day
        if self._hour == hours:
            raise DayOver("the last hour is behind")
        day, numbers = self.left()
        plan = [(hour, dish, craft, numbers[at]) for hour, dish, craft, at in best_plan(day)]
        passes = [one for one in plan if one[0] == self._hour]
        self._lose(numbers, [number for hour, dish, craft, number in plan])
        self._passes.extend(passes)
        self._away.extend([number for hour, dish, craft, number in passes])
        self._hour += 1
        return passes

    def _lose(self, numbers, kept_ones):
        """What is made by now and is not kept does not stay aboard."""
        for number in numbers:
            house, craft, ready, due, worth = self._day[4][number]
            if due is None and ready <= self._hour and number not in kept_ones:
                self._away.append(number)

    def _break(self, dish, hour):
        if not is_dish_hour(self._day, dish, hour) or hour < self._hour:
            raise NoHour("these are no dish of the day and no hour from now on")
        hours, stores, sights, asks, blocks = self._day
        sights[dish][hour] = []

    def _take_in(self, block):
        hours, stores, sights, asks, blocks = self._day
        if not is_block(block, hours, len(stores)) or block[2] < self._hour:
            raise NoBlock("this is no block that fits the day from now on")
        if len(blocks) == MOST_NUMBERS or len(self._numbers_left()) == MOST_BLOCKS:
            raise TooMany("there are as many blocks as there may be")
        blocks.append(block)
        return len(blocks) - 1

    def _take_out(self, number):
        # A truth is alike to a number, but is none here.
        if not is_number(number) or number not in self._numbers_left():
            raise NoBlock("this is no number of a block that is left")
        self._away.append(number)

    def _numbers_left(self):
        """The numbers of the blocks of what is left, rising."""
        hours, stores, sights, asks, blocks = self._day
        return [number for number in range(len(blocks)) if self._is_left(number)]

    def _is_left(self, number):
        # What goes down and is not gone is aboard or still to be made.
        house, craft, ready, due, worth = self._day[4][number]
        return number not in self._away and (due is None or due >= self._hour)

    def _block_left(self, number):
        """The block as it is in what is left: ready at this hour, where it was ready ahead of it."""
        house, craft, ready, due, worth = self._day[4][number]
        return house, craft, max(ready, self._hour), due, worth
