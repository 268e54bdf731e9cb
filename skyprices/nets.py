"""The net of a day: the ways that lead from its things over its places to the ground."""

from skyprices.places import all_places, dishes_hearing
from skyprices.things import all_things, entries_of, numbers_in, things_in_order

GROUND = ("ground",)
# More than all things of any day together: a way that never is full.
MANY = 99


def _ways(day):
    """All ways of the net, as tuples (from, to, how many may go by it)."""
    hours, stores, sights, asks, blocks = day
    ways = []
    for hour in range(hours):
        for craft in range(len(stores)):
            ways.extend(_ways_of_craft(day, craft, hour))
        for dish in range(len(sights)):
            ways.append((("dish", dish, hour), GROUND, 1))
    for thing in all_things(day):
        for place in entries_of(day, thing):
            ways.append((thing, place, 1))
    return ways


def _ways_of_craft(day, craft, hour):
    """The ways from the craft's store and radio at this hour."""
    hours, stores, sights, asks, blocks = day
    store = ("store", craft, hour)
    radio = ("radio", craft, hour)
    # A radio has one pass an hour whichever dish hears it: all must go by its one beam.
    beam = ("beam", craft, hour)
    ways = [(store, radio, MANY), (radio, beam, 1)]
    if hour + 1 < hours:
        ways.append((store, ("store", craft, hour + 1), stores[craft]))
    for dish in dishes_hearing(day, craft, hour):
        ways.append((beam, ("dish", dish, hour), MANY))
    return ways


class Net:
    """The ways of a day, and the things that are linked to the ground, each by a way of its own."""

    def __init__(self, day):
        self._day = day
        # For each node, how many more may go from it straight to each other node.
        self._room = {}
        for start, end, many in _ways(day):
            self._join(start, end, many)
            # Who goes a way may be led otherwise, which is room for going back.
            self._join(end, start, 0)

    def _join(self, start, end, many):
        if start not in self._room:
            self._room[start] = {}
        self._room[start][end] = many

    def link(self, thing):
        """True where the thing can be had together with all that are linked: then it is linked, too."""
        came = self._search(thing)
        if GROUND not in came:
            return False
        node = GROUND
        while node != thing:
            self._room[came[node]][node] -= 1
            self._room[node][came[node]] += 1
            node = came[node]
        return True

    def reached(self, thing):
        """The places that a thing which is not linked comes to, others being led otherwise for it, rising."""
        came = self._search(thing)
        return [place for place in all_places(self._day) if place in came]

    def _search(self, thing):
        """Each node that the thing comes to, with the node from which it does."""
        came = {thing: None}
        pending = [thing]
        while pending:
            node = pending.pop(0)
            for ahead in self._room[node]:
                if self._room[node][ahead] > 0 and ahead not in came:
                    came[ahead] = node
                    pending.append(ahead)
        return came

    def passes(self):
        """A plan that has just the linked blocks and none of the linked rests."""
        hours, stores, sights, asks, blocks = self._day
        found = []
        for craft in range(len(stores)):
            found.extend(self._passes_of(craft))
        return sorted(found)

    def _passes_of(self, craft):
        hours, stores, sights, asks, blocks = self._day
        found = []
        aboard = []
        for hour in range(hours):
            aboard.extend(self._linked_by(("store", craft, hour)))
            going_up = self._linked_by(("radio", craft, hour))
            for dish in self._hearing(craft, hour):
                # The net tells how many are sent, not which: first come, first sent.
                number = going_up[0] if going_up else aboard.pop(0)
                found.append((hour, dish, craft, number))
        return found

    def _linked_by(self, place):
        """The numbers of the linked blocks that come in at this place."""
        return numbers_in([node for node in self._room[place] if self._room[place][node] > 0])

    def _hearing(self, craft, hour):
        """The dish that hears the craft at this hour, or none, as a list."""
        beam = ("beam", craft, hour)
        return [dish for dish in dishes_hearing(self._day, craft, hour) if self._room[("dish", dish, hour)][beam] > 0]


def net_of_taken(day):
    """The net in which the taken things are linked, these things, and the lost ones, both in order."""
    net = Net(day)
    taken = []
    lost = []
    for thing in things_in_order(day):
        if net.link(thing):
            taken.append(thing)
        else:
            lost.append(thing)
    return net, taken, lost
