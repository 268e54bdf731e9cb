"""What can be brought together, a plan that brings it, and the places that bar it."""

from skyprices.days import rises
from skyprices.nets import Net
from skyprices.places import dishes_hearing, is_place
from skyprices.things import entries_of, need_things


def can_have(day, numbers, *, rests=()):
    """True where some plan has just these blocks and none of these dish hours."""
    return plan_for(day, numbers, rests=rests) is not None


def plan_for(day, numbers, *, rests=()):
    """A plan that has just these blocks and none of these dish hours, or None."""
    things = need_things(day, numbers, rests)
    net = Net(day)
    for thing in things:
        if not net.link(thing):
            return None
    return net.passes()


def bars_for(day, numbers, *, rests=()):
    """A list of places that bars these blocks and rests, or None where they can be had together."""
    things = need_things(day, numbers, rests)
    net = Net(day)
    for thing in things:
        if not net.link(thing):
            # All ways out of what it comes to are full, and only with things that lie in it.
            return net.reached(thing)
    return None


def bars(day, numbers, places, *, rests=()):
    """True where more of these blocks and rests lie in the places than these are shut by."""
    things = need_things(day, numbers, rests)
    if not _may_bar(day, places):
        return False
    lying = [thing for thing in things if _lies_in(day, thing, places)]
    return len(lying) > _shut_by(day, places)


def _may_bar(day, thing):
    # Only places may be compared: the list may hold anything.
    return (
        isinstance(thing, list)
        and all(is_place(day, place) for place in thing)
        and rises(thing)
        and all(("radio", number, hour) in thing for word, number, hour in thing if word == "store")
    )


def _lies_in(day, thing, places):
    return all(place in places for place in entries_of(day, thing))


def _shut_by(day, places):
    """How many of the blocks and rests that lie in the places may be had together at most."""
    return sum(_shut_at(day, places, place) for place in places)


def _shut_at(day, places, place):
    hours, stores, sights, asks, blocks = day
    word, number, hour = place
    if word == "store":
        kept_outside = hour + 1 < hours and ("store", number, hour + 1) not in places
        return stores[number] if kept_outside else 0
    if word == "radio":
        heard_outside = any(("dish", dish, hour) not in places for dish in dishes_hearing(day, number, hour))
        return 1 if heard_outside else 0
    return 1
