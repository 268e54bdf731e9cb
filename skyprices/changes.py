"""What a day becomes where a dish hour breaks or a block is told anew, and what goes by it."""

from skyprices.days import MOST_BLOCKS, copy_of_day, is_block, need_day
from skyprices.errors import NoBlock, NoHour, TooMany
from skyprices.kept import gain, taken_things
from skyprices.places import all_dish_hours, is_dish_hour


def broken(day, dish, hour):
    """The day in which the dish may hear no craft at this hour."""
    need_day(day)
    if not is_dish_hour(day, dish, hour):
        raise NoHour("these are no dish and hour of the day")
    told = copy_of_day(day)
    hours, stores, sights, asks, blocks = told
    sights[dish][hour] = []
    return told


def goes_by(day, dish, hour):
    """What is taken in the day, but not where this dish hour breaks: a thing, or None."""
    return _gone(day, broken(day, dish, hour))


def falls(day):
    """For each dish hour, by how much the gain falls where it breaks."""
    unbroken = gain(day)
    return {(dish, hour): unbroken - gain(broken(day, dish, hour)) for dish, hour in all_dish_hours(day)}


def told_anew(day, block):
    """The day with one block more, at the end."""
    need_day(day)
    hours, stores, sights, asks, blocks = copy_of_day(day)
    if not is_block(block, hours, len(stores)):
        raise NoBlock("this is no block that fits the day")
    if len(blocks) == MOST_BLOCKS:
        raise TooMany("the day has as many blocks as it may have")
    return hours, stores, sights, asks, blocks + [block]


def puts_out(day, block):
    """Whether the block, told anew, is kept, and what goes by it: a thing, or None."""
    other = told_anew(day, block)
    hours, stores, sights, asks, blocks = day
    return ("block", len(blocks)) in taken_things(other), _gone(day, other)


def _gone(day, other):
    """The thing that is taken in the day, but not in the other: there is one at most."""
    taken = taken_things(other)
    gone = [thing for thing in taken_things(day) if thing not in taken]
    return gone[0] if gone else None
