"""Things of a day: its blocks, ("block", number), and its rests, ("rest", dish, hour)."""

from skyprices.days import is_list, is_tuple, is_whole, need_day, rises
from skyprices.errors import NoNumbers, NoRests


def all_rests(day):
    """The dish hours of other rooms, as tuples (dish, hour), rising."""
    hours, stores, sights, asks, blocks = day
    return [(dish, hour) for dish in range(len(asks)) if asks[dish] is not None for hour in range(hours)]


def as_things(numbers, rests):
    """Rests and blocks as things, the rests ahead."""
    return [("rest", dish, hour) for dish, hour in rests] + [("block", number) for number in numbers]


def all_things(day):
    """All things of the day, rests ahead of blocks."""
    hours, stores, sights, asks, blocks = day
    return as_things(list(range(len(blocks))), all_rests(day))


def numbers_in(things):
    """The numbers of the blocks among the things, rising."""
    return sorted([thing[1] for thing in things if thing[0] == "block"])


def rests_in(things):
    """The rests among the things, as tuples (dish, hour), rising."""
    return sorted([(thing[1], thing[2]) for thing in things if thing[0] == "rest"])


def worth_of(day, thing):
    """What the thing is worth: a rest as much as is asked."""
    hours, stores, sights, asks, blocks = day
    if thing[0] == "rest":
        return asks[thing[1]]
    house, craft, ready, due, worth = blocks[thing[1]]
    return worth


def things_in_order(day):
    """All things of the day in the order in which they are taken."""
    # Things of alike worth stay as they stood: rests ahead of blocks.
    return sorted(all_things(day), key=lambda thing: -worth_of(day, thing))


def entries_of(day, thing):
    """The places by which the thing comes in, by any one of them."""
    hours, stores, sights, asks, blocks = day
    if thing[0] == "rest":
        return [("dish", thing[1], thing[2])]
    house, craft, ready, due, worth = blocks[thing[1]]
    if due is None:
        return [("store", craft, ready)]
    return [("radio", craft, hour) for hour in range(ready, due + 1)]


def is_number_of_block(day, thing):
    """True where the thing is the number of a block of the day."""
    hours, stores, sights, asks, blocks = day
    return is_whole(thing, 0, len(blocks) - 1)


def need_things(day, numbers, rests):
    """The things that are handed in; refused are what is no day, then no numbers, then no rests of it."""
    need_day(day)
    if not _are_numbers(day, numbers):
        raise NoNumbers("these are no rising list of blocks of the day")
    if not _are_rests(day, rests):
        raise NoRests("these are no rests of the day, rising")
    return as_things(numbers, rests)


def _are_numbers(day, thing):
    hours, stores, sights, asks, blocks = day
    # Only whole numbers may be compared: the list may hold anything.
    return (
        is_list(thing, 0, len(blocks))
        and all(is_number_of_block(day, number) for number in thing)
        and rises(thing)
    )


def _are_rests(day, thing):
    # Only rests may be compared: the list may hold anything.
    return isinstance(thing, (list, tuple)) and all(_is_rest(day, part) for part in thing) and rises(thing)


def _is_rest(day, thing):
    if not is_tuple(thing, 2):
        return False
    hours, stores, sights, asks, blocks = day
    dish, hour = thing
    return is_whole(dish, 0, len(asks) - 1) and asks[dish] is not None and is_whole(hour, 0, hours - 1)
