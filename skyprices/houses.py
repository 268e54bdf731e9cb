"""What each block must be worth to be kept, and what the houses are billed."""

from skyprices.days import MOST_HOUSE, MOST_WORTH, copy_of_day, is_whole, need_day
from skyprices.errors import NoBlock, NoWorth
from skyprices.kept import gain, kept
from skyprices.prices import price_of_thing, prices
from skyprices.things import is_number_of_block


def block_prices(day):
    """The price of each block, by the told prices."""
    told = prices(day)
    hours, stores, sights, asks, blocks = day
    return [price_of_thing(day, told, ("block", number)) for number in range(len(blocks))]


def told_otherwise(day, number, worth):
    """The day with another worth of one block."""
    need_day(day)
    if not is_number_of_block(day, number):
        raise NoBlock("this is no number of a block of the day")
    if not is_whole(worth, 1, MOST_WORTH):
        raise NoWorth("this is no worth of a block")
    hours, stores, sights, asks, blocks = copy_of_day(day)
    house, craft, ready, due, old_worth = blocks[number]
    blocks[number] = (house, craft, ready, due, worth)
    return hours, stores, sights, asks, blocks


def bills(day):
    """What each house pays: what its blocks cost the others."""
    need_day(day)
    kept_blocks = [day[4][number] for number in kept(day)]
    all_gain = gain(day)
    return [_bill(day, house, all_gain, kept_blocks) for house in range(MOST_HOUSE + 1)]


def _bill(day, house, all_gain, kept_blocks):
    own = sum(worth for owner, craft, ready, due, worth in kept_blocks if owner == house)
    return gain(_day_without(day, house)) - (all_gain - own)


def _day_without(day, house):
    """The day without the blocks of the house."""
    hours, stores, sights, asks, blocks = day
    return hours, stores, sights, asks, [block for block in blocks if block[0] != house]
