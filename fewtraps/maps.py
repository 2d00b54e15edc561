"""Maps, their places and lots, and the checks of what is handed in with a map."""

from fewtraps.errors import BadFree, BadLot, BadMap, BadNumber, BadPlace, BadWish, Refused

MOST_PLACES = 60
MOST_ROADS = 240
MOST_TRAPS = 8
MOST_THREADS = 3


def made_map(thing):
    """Return the map; raise BadMap or BadWish if thing is not one."""
    if not isinstance(thing, tuple) or len(thing) != 3:
        raise BadMap(-1)
    places, roads, wished = thing
    if not number_within(places, 0, MOST_PLACES):
        raise BadMap(-2)
    check_roads(places, roads)
    if not isinstance(wished, tuple):
        raise BadWish(-1)
    index = first_bad_place(places, wished)
    if index is not None:
        raise BadWish(index)
    return (places, roads, wished)


def is_map(thing):
    """Return whether thing is a map."""
    try:
        made_map(thing)
    except Refused:
        return False
    return True


def next_of(chart, lot):
    """Return the places to which roads lead out of the lot, and the wished ones to which roads lead within it."""
    made_map(chart)
    check_lot(chart, lot)
    return places_next(chart, lot)


def is_number(thing):
    """Return whether thing is a number; True and False are none."""
    return isinstance(thing, int) and not isinstance(thing, bool)


def number_within(thing, low, high):
    """Return whether thing is a number from low to high."""
    return is_number(thing) and low <= thing <= high


def traps_number_fits(thing):
    """Return whether thing is a number of traps."""
    return number_within(thing, 0, MOST_TRAPS)


def check_traps_number(thing):
    """Raise BadNumber unless thing is a number of traps."""
    if not traps_number_fits(thing):
        raise BadNumber(thing)


def first_bad_place(places, items):
    """Return the index of the first item that is no place or not above the one before it, None if all are right."""
    before = -1
    for index, item in enumerate(items):
        if not number_within(item, before + 1, places - 1):
            return index
        before = item
    return None


def check_roads(places, roads):
    """Raise BadMap unless roads are an ascending tuple of pairs of places."""
    if not isinstance(roads, tuple) or len(roads) > MOST_ROADS:
        raise BadMap(-3)
    for index, road in enumerate(roads):
        if not road_fits(places, road):
            raise BadMap(index)
        if index > 0 and road <= roads[index - 1]:
            raise BadMap(index)


def road_fits(places, thing):
    """Return whether thing is a tuple of two places."""
    if not isinstance(thing, tuple) or len(thing) != 2:
        return False
    return number_within(thing[0], 0, places - 1) and number_within(thing[1], 0, places - 1)


# The functions below take a chart that made_map has let pass, so that it is checked once for each call from outside.


def place_fits(chart, thing):
    """Return whether thing is a place of the map."""
    return number_within(thing, 0, chart[0] - 1)


def lot_fits(chart, thing):
    """Return whether thing is a lot of the map."""
    return isinstance(thing, tuple) and first_bad_place(chart[0], thing) is None


def free_fits(chart, thing):
    """Return whether thing is a lot of unwished places of the map."""
    return lot_fits(chart, thing) and not any([place in chart[2] for place in thing])


def traps_fit(chart, k, thing):
    """Return whether thing is a lot of the map of at most k places."""
    return lot_fits(chart, thing) and len(thing) <= k


def standing_fits(chart, thing):
    """Return whether thing is a standing of the map."""
    if not isinstance(thing, tuple) or not 1 <= len(thing) <= MOST_THREADS:
        return False
    return all([place_fits(chart, place) for place in thing])


def check_place(chart, thing):
    """Raise BadPlace unless thing is a place of the map."""
    if not place_fits(chart, thing):
        raise BadPlace(thing)


def check_lot(chart, thing):
    """Raise BadLot unless thing is a lot of the map."""
    if not lot_fits(chart, thing):
        raise BadLot(-1)


def check_free(chart, thing):
    """Raise BadFree unless thing is a lot of unwished places of the map."""
    if not free_fits(chart, thing):
        raise BadFree(-1)


def places_next(chart, lot):
    """Return what next_of returns."""
    inside = set(lot)
    wished = set(chart[2])
    return tuple(sorted({b for a, b in chart[1] if a in inside and (b in wished or b not in inside)}))


def roads_from(chart):
    """Return for each place the list of the places to which a road leads from it, ascending."""
    targets = [[] for _ in range(chart[0])]
    for a, b in chart[1]:
        targets[a].append(b)
    return targets


def unwished_of(chart):
    """Return the list of the unwished places, ascending."""
    wished = set(chart[2])
    return [place for place in range(chart[0]) if place not in wished]
