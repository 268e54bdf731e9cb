"""Prices of all places of a day, and whether prices show a plan to be of greatest gain."""

from skyprices.days import is_number, kept_over, need_day, need_plan
from skyprices.errors import NoPlace
from skyprices.nets import net_of_taken
from skyprices.places import all_places, dishes_hearing, is_place
from skyprices.things import all_things, entries_of, worth_of


def places_of(day):
    """All places of the day, rising."""
    need_day(day)
    return all_places(day)


def price_of(day, place):
    """How much more the day would gain, if one block could come down free at this place."""
    need_day(day)
    if not is_place(day, place):
        raise NoPlace("this is no place of the day")
    return prices(day)[place]


def prices(day):
    """The prices of all places, the least that show the best plans."""
    need_day(day)
    net, taken, lost = net_of_taken(day)
    told = {place: 0 for place in all_places(day)}
    # One block more coming down lets one lost thing in: the one of greatest worth that comes to the place.
    for thing in lost:
        for place in net.reached(thing):
            told[place] = max(told[place], worth_of(day, thing))
    return told


def price_of_thing(day, told, thing):
    """The price of a block or a rest by the told prices: that of the cheapest place where it comes in."""
    return min(told[place] for place in entries_of(day, thing))


def shows_best(day, plan, dict_of_prices):
    """True where the prices show the plan to be of greatest gain."""
    need_plan(day, plan)
    return (
        _are_prices(day, dict_of_prices)
        and _stores_fit(day, plan, dict_of_prices)
        and _radios_fit(day, plan, dict_of_prices)
        and _dishes_fit(day, plan, dict_of_prices)
        and all(_pass_fits(day, dict_of_prices, one) for one in plan)
        and _blocks_fit(day, plan, dict_of_prices)
    )


def _are_prices(day, thing):
    # A truth in a key is alike to a number, so the keys are looked at, too.
    return (
        isinstance(thing, dict)
        and all(is_place(day, key) for key in thing)
        and all(place in thing for place in all_places(day))
        and all(is_number(price) and price >= 0 for price in thing.values())
    )


def _stores_fit(day, plan, told):
    hours, stores, sights, asks, blocks = day
    return all(_store_fits(day, plan, told, craft, hour) for craft in range(len(stores)) for hour in range(hours))


def _store_fits(day, plan, told, craft, hour):
    hours, stores, sights, asks, blocks = day
    price = told["store", craft, hour]
    if price > told["radio", craft, hour]:
        return False
    # What can't be kept longer may be dearer now than later.
    if hour + 1 == hours or len(kept_over(day, plan, craft, hour)) == stores[craft]:
        return True
    return price <= told["store", craft, hour + 1]


def _radios_fit(day, plan, told):
    """True where no radio that is not used is dearer than a dish that may hear it."""
    hours, stores, sights, asks, blocks = day
    sending = [(sent_at, sender) for sent_at, dish, sender, block in plan]
    return all(
        (hour, craft) in sending or told["radio", craft, hour] <= told["dish", dish, hour]
        for craft in range(len(stores))
        for hour in range(hours)
        for dish in dishes_hearing(day, craft, hour)
    )


def _dishes_fit(day, plan, told):
    hours, stores, sights, asks, blocks = day
    hearing = [(hour, dish) for hour, dish, craft, block in plan]
    return all(
        _dish_fits(asks[dish], (hour, dish) in hearing, told["dish", dish, hour])
        for dish in range(len(sights))
        for hour in range(hours)
    )


def _dish_fits(ask, hears, price):
    if hears:
        return ask is None or price >= ask
    return price <= (0 if ask is None else ask)


def _pass_fits(day, told, one):
    """True where the pass has gone the cheapest way: by no dearer a dish, radio or hour than it might have."""
    hour, dish, craft, number = one
    hours, stores, sights, asks, blocks = day
    house, own_craft, ready, due, worth = blocks[number]
    heard_at = told["dish", dish, hour]
    sent_at = told["radio", craft, hour]
    if heard_at > sent_at:
        return False
    if any(heard_at > told["dish", other, hour] for other in dishes_hearing(day, craft, hour)):
        return False
    if due is not None:
        return all(sent_at <= told["radio", craft, other] for other in range(ready, due + 1))
    kept_at = [told["store", craft, at] for at in range(ready, hour + 1)]
    never_rise = all(kept_at[at] >= kept_at[at + 1] for at in range(len(kept_at) - 1))
    return never_rise and kept_at[-1] >= sent_at


def _blocks_fit(day, plan, told):
    sent = [block for hour, dish, craft, block in plan]
    return all(_block_fits(day, told, thing, thing[1] in sent) for thing in all_things(day) if thing[0] == "block")


def _block_fits(day, told, thing, sent):
    price = price_of_thing(day, told, thing)
    worth = worth_of(day, thing)
    return worth >= price if sent else worth <= price
