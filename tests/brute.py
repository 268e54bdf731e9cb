"""Small days by the dozen, and what point 5 to 12 say of them, found by going through all plans.

Nothing here imports the program.
"""

import itertools
import random


def small_days(many, seed, blocks=5, worths=(1, 1, 2, 3, 3, 4, 6), asks=(None, None, 0, 1, 2, 3)):
    """So many days of one to three hours, one to three craft, one or two dishes and no more blocks than told."""
    chance = random.Random(seed)
    return [_small_day(chance, chance.randint(0, blocks), worths, asks) for _ in range(many)]


def _small_day(chance, many, worths, asks):
    hours, craft, dishes = chance.choice((1, 2, 3, 3)), chance.choice((1, 1, 2, 2, 3)), chance.randint(1, 2)
    heard = chance.choice((0.4, 0.7, 1, 1))
    sights = [
        [[number for number in range(craft) if chance.random() < heard] for _ in range(hours)]
        for _ in range(dishes)
    ]
    blocks = []
    for _ in range(many):
        ready = chance.randrange(hours)
        due = chance.choice((None, None, chance.randrange(ready, hours)))
        blocks.append((chance.randrange(3), chance.randrange(craft), ready, due, chance.choice(worths)))
    stores = [chance.choice((0, 0, 1, 1, 2, 5)) for _ in range(craft)]
    return (hours, stores, sights, [chance.choice(asks) for _ in range(dishes)], blocks)


def full_days(many, seed):
    """So many days to the full: ten hours, four craft, three dishes, fourteen blocks, worths often alike."""
    chance = random.Random(seed)
    return [_full_day(chance) for _ in range(many)]


def _full_day(chance):
    most = chance.choice((2, 3, 4))
    sights = [[sorted(chance.sample(range(4), chance.randint(0, most))) for _ in range(10)] for _ in range(3)]
    blocks = []
    # Few hours for the blocks make them many for their ways.
    first = chance.choice((0, 3, 6))
    for _ in range(14):
        ready = chance.randrange(first, 10)
        due = chance.choice((None, None, None, min(9, ready + chance.randrange(4))))
        worth = chance.choice((1, 5, 20, 20, 20, 50, 50, 9999))
        blocks.append((chance.randrange(6), chance.randrange(4), ready, due, worth))
    stores = [chance.choice((0, 0, 1, 1, 2, 5)) for _ in range(4)]
    asks = [chance.choice((None, 0, 5, 20, 20, 999)) for _ in range(3)]
    return (10, stores, sights, asks, blocks)


def asked(day, dish):
    """What is paid for an hour of the dish."""
    return day[3][dish] or 0


def choices(day, number, free=None):
    """All that one block may do: tuples (pass, what it gains, what it takes up).

    With a free place the block may also come down there, as point 12 has it: without a pass.
    """
    hours, stores, sights, asks, blocks = day
    house, craft, ready, due, worth = blocks[number]
    last = hours - 1 if due is None else due
    found = []
    for hour in range(ready, last + 1):
        kept = [("kept", craft, at) for at in range(ready, hour)] if due is None else []
        radio = ("radio", craft, hour)
        for dish in range(len(sights)):
            if craft in sights[dish][hour]:
                own = ("dish", dish, hour)
                found.append(((hour, dish, craft, number), worth - asked(day, dish), kept + [radio, own]))
                if free == own:
                    found.append((None, worth, kept + [radio, "free"]))
        if free == radio or (free == ("store", craft, hour) and due is None):
            found.append((None, worth, kept + ["free"]))
    return found


def ways_through(day, free=None):
    """All that the blocks may do together: tuples (passes, gain)."""
    room = {("kept", craft, hour): many for craft, many in enumerate(day[1]) for hour in range(day[0])}
    rows = [choices(day, number, free) for number in range(len(day[4]))]
    found = []

    def go(number, passes, gain):
        if number == len(rows):
            found.append((sorted(passes), gain))
            return
        go(number + 1, passes, gain)
        for one, more, wants in rows[number]:
            if all(room.get(want, 1) > 0 for want in wants):
                for want in wants:
                    room[want] = room.get(want, 1) - 1
                go(number + 1, passes + [one] if one else passes, gain + more)
                for want in wants:
                    room[want] += 1

    go(0, [], 0)
    return found


def plans_of(day):
    """All plans of the day, each with its gain."""
    return ways_through(day)


def most_gain(day):
    return max(gain for _, gain in ways_through(day))


def free_gain(day, place):
    """How much more the day gains, if one block may come down free at the place."""
    return max(gain for _, gain in ways_through(day, place)) - most_gain(day)


class Having:
    """Which blocks and rests of a day can be had together."""

    def __init__(self, day):
        told = {}
        for passes, _ in plans_of(day):
            told.setdefault(tuple(sorted(one[3] for one in passes)), set()).add(
                frozenset((one[1], one[0]) for one in passes if day[3][one[1]] is not None)
            )
        self.used = told

    def can(self, numbers, rests=()):
        return any(not used & set(rests) for used in self.used.get(tuple(sorted(numbers)), ()))


def dish_hours(day):
    """The dish hours of other rooms, rising."""
    return [(dish, hour) for dish, ask in enumerate(day[3]) if ask is not None for hour in range(day[0])]


def things_in_order(day):
    """The things of point 9 as tuples (word, what, worth), in its order."""
    rests = [(-day[3][dish], 0, (dish, hour)) for dish, hour in dish_hours(day)]
    blocks = [(-block[4], 1, number) for number, block in enumerate(day[4])]
    # Rests and blocks differ in the second part, so a tuple is never compared with a number.
    return [("block" if kind else "rest", what, -worth) for worth, kind, what in sorted(rests + blocks)]


def taken_in_order(day):
    """Point 9: for each thing in its order whether it is taken, each tried against all plans."""
    having, numbers, rests, told = Having(day), [], [], []
    for word, what, worth in things_in_order(day):
        row = rests if word == "rest" else numbers
        row.append(what)
        fits = having.can(numbers, rests)
        if not fits:
            row.pop()
        told.append((word, what, worth, fits))
    return told


def subsets(things):
    """All sublists of the things, each in their order."""
    for many in range(len(things) + 1):
        for part in itertools.combinations(things, many):
            yield list(part)


def places_of_day(day):
    """All places of the day, rising."""
    hours, stores, sights, asks, blocks = day
    rows = (("dish", len(sights)), ("radio", len(stores)), ("store", len(stores)))
    return [(word, number, hour) for word, many in rows for number in range(many) for hour in range(hours)]


def lies_in(day, places, number):
    """Point 8, of a block."""
    house, craft, ready, due, worth = day[4][number]
    if due is None:
        return ("store", craft, ready) in places
    return all(("radio", craft, hour) in places for hour in range(ready, due + 1))


def shut_by(day, places):
    """Point 8: the number by which the places are shut, place by place."""
    hours, stores, sights, asks, blocks = day
    many = 0
    for craft, hour in itertools.product(range(len(stores)), range(hours)):
        if ("store", craft, hour) in places and hour + 1 < hours and ("store", craft, hour + 1) not in places:
            many += stores[craft]
        if ("radio", craft, hour) in places:
            hearing = [dish for dish in range(len(sights)) if craft in sights[dish][hour]]
            if not all(("dish", dish, hour) in places for dish in hearing):
                many += 1
    return many + len([place for place in places if place[0] == "dish"])


def bars_by_count(day, numbers, rests, places):
    """Point 8: whether places that may bar at all bar these, counted."""
    lying = [number for number in numbers if lies_in(day, places, number)]
    resting = [rest for rest in rests if ("dish",) + rest in places]
    return len(lying) + len(resting) > shut_by(day, places)


def may_bar(day, places):
    """Point 8: a rising list of places of the day that has with each store its radio."""
    return (
        isinstance(places, list)
        and all(place in places_of_day(day) for place in places)
        and places == sorted(set(places))
        and all(("radio",) + place[1:] in places for place in places if place[0] == "store")
    )


def block_price(day, told, number):
    """Point 13: the price of a block by prices of places."""
    house, craft, ready, due, worth = day[4][number]
    if due is None:
        return told["store", craft, ready]
    return min(told["radio", craft, hour] for hour in range(ready, due + 1))
