"""What is kept of a day: the things that are taken one by one, those of greater worth first."""

from skyprices.days import need_day
from skyprices.errors import NoLost
from skyprices.nets import Net, net_of_taken
from skyprices.things import all_rests, is_number_of_block, numbers_in, rests_in, things_in_order, worth_of


def taken_things(day):
    """The things of the day that are taken, in their order; for what surely is a day."""
    net, taken, lost = net_of_taken(day)
    return taken


def kept(day):
    """The numbers of the blocks that are kept, rising."""
    need_day(day)
    return numbers_in(taken_things(day))


def rests(day):
    """The dish hours of other rooms that are left alone, rising."""
    need_day(day)
    return rests_in(taken_things(day))


def rented(day):
    """The dish hours of other rooms that are not left alone, rising."""
    need_day(day)
    left = rests_in(taken_things(day))
    return [rest for rest in all_rests(day) if rest not in left]


def gain(day):
    """The greatest gain of the day: the worth of the kept blocks, less what is asked for the rented hours."""
    need_day(day)
    taken = sum(worth_of(day, thing) for thing in taken_things(day))
    # Each rest that is taken gives back what all dish hours together would cost.
    return taken - sum(worth_of(day, ("rest", dish, hour)) for dish, hour in all_rests(day))


def best_plan(day):
    """A plan that has the kept blocks and none of the rests."""
    need_day(day)
    net, taken, lost = net_of_taken(day)
    return net.passes()


def lost_paper(day, number):
    """A list of places that bars the lost block together with the taken things ahead of it."""
    need_day(day)
    if is_number_of_block(day, number):
        net = Net(day)
        for thing in things_in_order(day):
            if not net.link(thing) and thing == ("block", number):
                return net.reached(thing)
    raise NoLost("this is no number of a lost block")
