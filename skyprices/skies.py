"""A day that is run by a plan, hour by hour."""

from skyprices.days import copy_of_day, gain_of_passes, kept_over, need_plan
from skyprices.errors import DayOver


class Sky:
    """A day and a plan of it, at an hour of the day."""

    def __init__(self, day, plan):
        need_plan(day, plan)
        self._day = copy_of_day(day)
        self._plan = list(plan)
        self._hour = 0

    def tick(self):
        """Do the passes of the hour that comes next, and tell them."""
        hours, stores, sights, asks, blocks = self._day
        if self._hour == hours:
            raise DayOver("the last hour is behind")
        passes = [part for part in self._plan if part[0] == self._hour]
        self._hour += 1
        return passes

    def now(self):
        """The hour that comes next."""
        return self._hour

    def aboard(self):
        """For each craft, the blocks that are aboard, rising."""
        hours, stores, sights, asks, blocks = self._day
        # What is aboard now was kept from the hour just behind.
        return [kept_over(self._day, self._plan, craft, self._hour - 1) for craft in range(len(stores))]

    def sent(self):
        """The numbers of the blocks that were sent so far, rising."""
        return sorted([block for hour, dish, craft, block in self._done()])

    def gain(self):
        """The gain of what was done so far."""
        return gain_of_passes(self._day, self._done())

    def _done(self):
        return [part for part in self._plan if part[0] < self._hour]
