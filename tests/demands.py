"""The demands of point 13, each by a name of its own. Nothing here imports the program."""

from tests.brute import block_price

DEMANDS = (
    "store above radio", "store above the next, not full", "radio above dish, not used",
    "our dish, not used", "other dish, not used, above its ask", "other dish, used, below its ask",
    "dish of a pass above its radio", "dish of a pass above another", "stores rise on the way down",
    "last store below radio", "radio of a pass up above another", "kept block below its price",
    "lost block above its price",
)


def kept_between(day, plan, craft, hour):
    """How many the craft keeps from the hour to the next."""
    return len([
        one for one in plan
        if one[2] == craft and day[4][one[3]][3] is None and day[4][one[3]][2] <= hour < one[0]
    ])


def broken_demands(day, plan, told):
    """The demands that prices of all places, from 0 on, break for this plan."""
    return _of_craft(day, plan, told) | _of_dishes(day, plan, told) | _of_passes(day, plan, told) | _of_blocks(
        day, plan, told
    )


def _of_craft(day, plan, told):
    hours, stores, sights, asks, blocks = day
    broken = set()
    used = {(one[2], one[0]) for one in plan}
    for craft, room in enumerate(stores):
        for hour in range(hours):
            store, radio = told["store", craft, hour], told["radio", craft, hour]
            if store > radio:
                broken.add("store above radio")
            if hour + 1 < hours and kept_between(day, plan, craft, hour) < room:
                if store > told["store", craft, hour + 1]:
                    broken.add("store above the next, not full")
            for dish, row in enumerate(sights):
                if craft in row[hour] and (craft, hour) not in used and radio > told["dish", dish, hour]:
                    broken.add("radio above dish, not used")
    return broken


def _of_dishes(day, plan, told):
    hours, stores, sights, asks, blocks = day
    broken = set()
    used = {(one[1], one[0]) for one in plan}
    for dish, ask in enumerate(asks):
        for hour in range(hours):
            price = told["dish", dish, hour]
            if ask is None and (dish, hour) not in used and price != 0:
                broken.add("our dish, not used")
            if ask is not None and (dish, hour) not in used and price > ask:
                broken.add("other dish, not used, above its ask")
            if ask is not None and (dish, hour) in used and price < ask:
                broken.add("other dish, used, below its ask")
    return broken


def _of_passes(day, plan, told):
    hours, stores, sights, asks, blocks = day
    broken = set()
    for hour, dish, craft, number in plan:
        house, own_craft, ready, due, worth = blocks[number]
        price, radio = told["dish", dish, hour], told["radio", craft, hour]
        if price > radio:
            broken.add("dish of a pass above its radio")
        for other, row in enumerate(sights):
            if craft in row[hour] and price > told["dish", other, hour]:
                broken.add("dish of a pass above another")
        if due is None:
            way = [told["store", craft, at] for at in range(ready, hour + 1)]
            if way != sorted(way, reverse=True):
                broken.add("stores rise on the way down")
            if way[-1] < radio:
                broken.add("last store below radio")
        elif radio > min(told["radio", craft, at] for at in range(ready, due + 1)):
            broken.add("radio of a pass up above another")
    return broken


def _of_blocks(day, plan, told):
    broken = set()
    sent = {one[3] for one in plan}
    for number, block in enumerate(day[4]):
        price = block_price(day, told, number)
        if number in sent and block[4] < price:
            broken.add("kept block below its price")
        if number not in sent and block[4] > price:
            broken.add("lost block above its price")
    return broken
