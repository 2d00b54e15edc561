"""Plain listings of walks and regions, straight from the words of the document, to compare the program with."""

from tests.cases import lots_of


def walks_from(chart, a):
    """Return all walks from a, with unwished inner places, of at most as many roads as the map has places."""
    places, roads, wished = chart
    found = []
    latest = [(a,)]
    for _ in range(places):
        latest = [walk + (b,) for walk in latest if len(walk) == 1 or walk[-1] not in wished
                  for start, b in roads if start == walk[-1]]
        found += latest
    return found


def come_to(chart, lot):
    """Return all places to which a place of the lot comes, by walks that are made longer as long as that is new."""
    found = set()
    latest = set(lot)
    while latest:
        latest = {b for a, b in chart[1] if a in latest} - found
        found |= latest
        latest -= set(chart[2])
    return found


def next_to(chart, region):
    """Return the places that a road from the region leads to and that are wished or not in it."""
    return tuple(b for b in range(chart[0])
                 if any((a, b) in chart[1] for a in region) and (b in chart[2] or b not in region))


def regions_of(chart, lot):
    """Return pairs of each region of the lot and the places next to it, each a tuple."""
    outside = sorted(come_to(chart, lot) - set(chart[2]) - set(lot))
    found = [tuple(sorted(lot + more)) for more in lots_of(outside)]
    return [(region, next_to(chart, region)) for region in found]


def extreme_walls(regions, free):
    """Return what is next to the least and to the greatest of the regions with the fewest places next to them."""
    let = [(region, places) for region, places in regions if not set(places) & set(free)]
    fewest = min(len(places) for region, places in let)
    best = [(set(region), places) for region, places in let if len(places) == fewest]
    least = [places for region, places in best if all(region <= other for other, _ in best)]
    greatest = [places for region, places in best if all(region >= other for other, _ in best)]
    assert len(least) == len(greatest) == 1
    return least[0], greatest[0]


def fault_of_ways(chart, lot, free, ways):
    """Return what is wrong with ways from the lot that are to share nothing but free places, None if nothing is."""
    places, roads, wished = chart
    left = []
    for way in ways:
        if not isinstance(way, tuple) or len(way) < 2:
            return "no walk"
        if any(pair not in roads for pair in zip(way, way[1:])):
            return "no road"
        if way[0] not in lot or way[-1] not in wished or any(place in wished for place in way[1:-1]):
            return "no way"
        if len(set(way[1:])) < len(way[1:]):
            return "a place twice in one way"
        left += [place for place in way[1:] if place not in free and (place not in lot or place in wished)]
    if len(set(left)) < len(left):
        return "a place twice"
    return None
