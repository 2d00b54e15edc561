"""Maps that differ from a map by one road or one wished place."""

from fewtraps.errors import NoRoad, NotWished, TooMany, Twice
from fewtraps.maps import MOST_ROADS, check_place, made_map


def with_road(chart, a, b):
    """Return the map with the road from a to b."""
    check_road(chart, a, b)
    places, roads, wished = chart
    if (a, b) in roads:
        raise Twice(0)
    if len(roads) == MOST_ROADS:
        raise TooMany(MOST_ROADS)
    return (places, tuple(sorted(roads + ((a, b),))), wished)


def without_road(chart, a, b):
    """Return the map without the road from a to b."""
    check_road(chart, a, b)
    places, roads, wished = chart
    if (a, b) not in roads:
        raise NoRoad(0)
    return (places, tuple([road for road in roads if road != (a, b)]), wished)


def with_wish(chart, a):
    """Return the map in which a is wished as well."""
    made_map(chart)
    check_place(chart, a)
    places, roads, wished = chart
    if a in wished:
        raise Twice(0)
    return (places, roads, tuple(sorted(wished + (a,))))


def without_wish(chart, a):
    """Return the map in which a is not wished."""
    made_map(chart)
    check_place(chart, a)
    places, roads, wished = chart
    if a not in wished:
        raise NotWished(0)
    return (places, roads, tuple([place for place in wished if place != a]))


def check_road(chart, a, b):
    """Raise what both with_road and without_road raise for no map and no places."""
    made_map(chart)
    check_place(chart, a)
    check_place(chart, b)
