"""Days, the plans of a day, and what a plan gains."""

from skyprices.errors import NoDay, NoPlan

MOST_HOURS = 10
MOST_CRAFT = 4
MOST_STORE = 5
MOST_DISHES = 3
MOST_ASK = 999
MOST_BLOCKS = 14
MOST_HOUSE = 5
MOST_WORTH = 9999


def is_number(thing):
    """True where the thing is a whole number."""
    # A truth is an int to Python, but no number here.
    return isinstance(thing, int) and not isinstance(thing, bool)


def is_whole(thing, least, most):
    """True where the thing is a whole number from least to most."""
    return is_number(thing) and least <= thing <= most


def is_list(thing, least, most):
    """True where the thing is a list of least to most things."""
    return isinstance(thing, list) and least <= len(thing) <= most


def is_tuple(thing, many):
    """True where the thing is a tuple of so many things."""
    return isinstance(thing, tuple) and len(thing) == many


def rises(things):
    """True where each of the things, all of one kind, is greater than the one ahead."""
    return all(things[at] < things[at + 1] for at in range(len(things) - 1))


def is_day(thing):
    """True where the thing is a day."""
    if not is_tuple(thing, 5):
        return False
    hours, stores, sights, asks, blocks = thing
    return (
        is_whole(hours, 1, MOST_HOURS)
        and _are_stores(stores)
        and _are_sights(sights, hours, len(stores))
        and _are_asks(asks, len(sights))
        and _are_blocks(blocks, hours, len(stores))
    )


def _are_stores(thing):
    return is_list(thing, 1, MOST_CRAFT) and all(is_whole(store, 0, MOST_STORE) for store in thing)


def _are_sights(thing, hours, craft):
    return is_list(thing, 1, MOST_DISHES) and all(_is_sight(sight, hours, craft) for sight in thing)


def _is_sight(thing, hours, craft):
    return is_list(thing, hours, hours) and all(_are_heard(heard, craft) for heard in thing)


def _are_heard(thing, craft):
    # Only whole numbers may be compared: the list may hold anything.
    return isinstance(thing, list) and all(is_whole(number, 0, craft - 1) for number in thing) and rises(thing)


def _are_asks(thing, dishes):
    return is_list(thing, dishes, dishes) and all(ask is None or is_whole(ask, 0, MOST_ASK) for ask in thing)


def _are_blocks(thing, hours, craft):
    return is_list(thing, 0, MOST_BLOCKS) and all(is_block(block, hours, craft) for block in thing)


def is_block(thing, hours, craft):
    """True where the thing is a block of a day of so many hours and craft."""
    if not is_tuple(thing, 5):
        return False
    house, number, ready, due, worth = thing
    return (
        is_whole(house, 0, MOST_HOUSE)
        and is_whole(number, 0, craft - 1)
        and is_whole(ready, 0, hours - 1)
        and (due is None or is_whole(due, ready, hours - 1))
        and is_whole(worth, 1, MOST_WORTH)
    )


def need_day(thing):
    """Refuse what is no day."""
    if not is_day(thing):
        raise NoDay("this is no day")


def copy_of_day(day):
    """The same day, with lists of its own."""
    hours, stores, sights, asks, blocks = day
    own_sights = [[list(heard) for heard in sight] for sight in sights]
    return hours, list(stores), own_sights, list(asks), list(blocks)


def is_plan(day, thing):
    """True where the thing is a plan of the day."""
    need_day(day)
    # Only passes may be compared: the list may hold anything.
    return (
        isinstance(thing, list)
        and all(_is_pass(day, part) for part in thing)
        and rises(thing)
        and _clash_nowhere(thing)
        and _fit_stores(day, thing)
    )


def _is_pass(day, thing):
    if not is_tuple(thing, 4):
        return False
    hours, stores, sights, asks, blocks = day
    hour, dish, craft, block = thing
    return (
        is_whole(hour, 0, hours - 1)
        and is_whole(dish, 0, len(sights) - 1)
        and is_whole(craft, 0, len(stores) - 1)
        and is_whole(block, 0, len(blocks) - 1)
        and craft in sights[dish][hour]
        and craft == blocks[block][1]
        and may_be_sent(blocks[block], hour)
    )


def may_be_sent(block, hour):
    """True where the block may be sent at this hour of the day."""
    house, craft, ready, due, worth = block
    return ready <= hour and (due is None or hour <= due)


def _clash_nowhere(passes):
    many = len(passes)
    return (
        len({(hour, dish) for hour, dish, craft, block in passes}) == many
        and len({(hour, craft) for hour, dish, craft, block in passes}) == many
        and len({block for hour, dish, craft, block in passes}) == many
    )


def _fit_stores(day, passes):
    hours, stores, sights, asks, blocks = day
    return all(
        len(kept_over(day, passes, craft, hour)) <= stores[craft]
        for craft in range(len(stores))
        for hour in range(hours)
    )


def kept_over(day, passes, craft, hour):
    """The blocks that these passes keep aboard the craft from this hour to the next, rising."""
    hours, stores, sights, asks, blocks = day
    kept = []
    for sent_at, dish, sender, number in passes:
        house, own_craft, ready, due, worth = blocks[number]
        if sender == craft and due is None and ready <= hour < sent_at:
            kept.append(number)
    return sorted(kept)


def need_plan(day, thing):
    """Refuse what is no day, then what is no plan of it."""
    if not is_plan(day, thing):
        raise NoPlan("this is no plan of the day")


def gain_of(day, plan):
    """The worth of the plan's blocks together, less what is asked for its dish hours."""
    need_plan(day, plan)
    return gain_of_passes(day, plan)


def gain_of_passes(day, passes):
    """The gain of passes that surely are a plan of the day."""
    hours, stores, sights, asks, blocks = day
    gain = 0
    for hour, dish, craft, number in passes:
        house, own_craft, ready, due, worth = blocks[number]
        gain += worth
        if asks[dish] is not None:
            gain -= asks[dish]
    return gain
