"""Places of a day: the stores and radios of its craft and its dishes, each at each hour."""

from skyprices.days import is_tuple, is_whole


def _how_many(day):
    """For each word of a place, how many there are of it at an hour."""
    hours, stores, sights, asks, blocks = day
    return {"dish": len(sights), "radio": len(stores), "store": len(stores)}


def all_places(day):
    """All places of the day, rising."""
    hours, stores, sights, asks, blocks = day
    many = _how_many(day)
    return sorted([(word, number, hour) for word in many for number in range(many[word]) for hour in range(hours)])


def is_place(day, thing):
    """True where the thing is a place of the day."""
    if not is_tuple(thing, 3):
        return False
    hours, stores, sights, asks, blocks = day
    word, number, hour = thing
    many = _how_many(day)
    # Only a text is looked up: a list, say, can't be a key.
    return (
        isinstance(word, str)
        and word in many
        and is_whole(number, 0, many[word] - 1)
        and is_whole(hour, 0, hours - 1)
    )


def dishes_hearing(day, craft, hour):
    """The dishes that may hear the craft at this hour, rising."""
    hours, stores, sights, asks, blocks = day
    return [dish for dish in range(len(sights)) if craft in sights[dish][hour]]


def all_dish_hours(day):
    """All dish hours of the day, as tuples (dish, hour), rising."""
    hours, stores, sights, asks, blocks = day
    return [(dish, hour) for dish in range(len(sights)) for hour in range(hours)]


def is_dish_hour(day, dish, hour):
    """True where these are a dish and an hour of the day."""
    return is_place(day, ("dish", dish, hour))
