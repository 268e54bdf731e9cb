"""Days, plans and wrong things that the tests share."""

import copy
import itertools


def running_day():
    """A day with blocks up and down, a dish of our own and one of another room."""
    return (
        4,
        [1, 2],
        [
            [[0, 1], [0, 1], [1], []],
            [[], [0], [0, 1], [1]],
        ],
        [None, 30],
        [
            (0, 0, 0, None, 100),
            (1, 0, 1, None, 50),
            (2, 1, 0, None, 70),
            (3, 1, 1, 3, 40),
            (4, 1, 0, None, 60),
            (5, 0, 0, 0, 10),
        ],
    )


def running_plan():
    """A plan of the running day that sends all blocks and fills both stores."""
    return [(0, 0, 0, 5), (1, 0, 1, 2), (1, 1, 0, 0), (2, 0, 1, 4), (2, 1, 0, 1), (3, 1, 1, 3)]


def small_day():
    """A day with few passes, for trying all lists of them."""
    return (
        3,
        [1, 0],
        [[[0], [0, 1], [0]], [[0, 1], [0], []]],
        [None, 7],
        [(0, 0, 0, None, 9), (1, 0, 0, None, 3), (2, 1, 1, None, 5), (3, 0, 1, 2, 4)],
    )


def day_of(hours=2, craft=1, dishes=1, blocks=()):
    """A day of so many hours, craft and dishes, each dish hearing all craft at all hours."""
    sights = [[list(range(craft)) for _ in range(hours)] for _ in range(dishes)]
    return (hours, [1] * craft, sights, [None] * dishes, list(blocks))


def day_with(day, part, thing):
    """The day with a thing in the place of one of its five parts."""
    return put(day, (part,), thing)


def odd_things():
    """Things of many kinds; no day, no plan, and no number."""
    deep = 0
    for _ in range(7):
        deep = [deep]
    return [
        None, True, False, "", "0", "day", b"", b"0", {}, {0: 0}, {"hours": 1}, [], [0], [None], [[0]], [()],
        (), (0,), (None,), ([],), ((0, 0, 0, 0),), [{}], ({},), set(), {0}, frozenset(), range(2), object(),
        len, ValueError, ValueError("0"), deep, (deep, {0: [deep]}),
    ]


def is_odd(value, part):
    """True where the part is of another kind than the value that it replaces."""
    return type(part) is not type(value)


def places_in(thing, path=()):
    """The path to the thing and to each thing within it, with what stands there."""
    yield path, thing
    if isinstance(thing, (list, tuple)):
        for at, part in enumerate(thing):
            yield from places_in(part, path + (at,))


def put(thing, path, part):
    """A deep copy of the thing, with the part at the path."""
    if not path:
        return part
    parts = [put(old, path[1:], part) if at == path[0] else copy.deepcopy(old) for at, old in enumerate(thing)]
    return tuple(parts) if isinstance(thing, tuple) else parts


def swapped(thing):
    """The tuple for a list, the list for a tuple."""
    return tuple(thing) if isinstance(thing, list) else list(thing)


def single_passes(day):
    """All tuples of four numbers in the day's ranges whose dish may hear the craft of the block then."""
    hours, stores, sights, asks, blocks = day
    found = []
    for hour, dish, number in itertools.product(range(hours), range(len(sights)), range(len(blocks))):
        _, craft, ready, due, _ = blocks[number]
        last = hours - 1 if due is None else due
        if craft in sights[dish][hour] and hour in range(ready, last + 1):
            found.append((hour, dish, craft, number))
    return sorted(found)


def fits(day, passes):
    """The demands of point 5 on single passes that rise, taken pair by pair and store by store."""
    hours, stores, sights, asks, blocks = day
    for one, other in itertools.combinations(passes, 2):
        if one[0] == other[0] and (one[1] == other[1] or one[2] == other[2]):
            return False
        if one[3] == other[3]:
            return False
    for hour, craft in itertools.product(range(hours), range(len(stores))):
        kept = 0
        for at, _, _, number in passes:
            down = blocks[number][3] is None
            if down and blocks[number][1] == craft and blocks[number][2] <= hour and at > hour:
                kept += 1
        if kept > stores[craft]:
            return False
    return True


def all_plans(day, most):
    """All plans of the day of at most so many passes, found by trying."""
    singles = single_passes(day)
    found = []
    for many in range(most + 1):
        for passes in itertools.combinations(singles, many):
            if fits(day, passes):
                found.append(list(passes))
    return found
