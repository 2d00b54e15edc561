"""Whether traps cut a lot from the wished places, and by which walk they are missed."""

from fewtraps.maps import check_lot, made_map, roads_from, unwished_of


def cuts(chart, traps, lot):
    """Return whether each walk from the lot to a wished place has a trap behind its first place."""
    return missed(chart, traps, lot) is None


def missed(chart, traps, lot):
    """Return the shortest walk from the lot to a wished place that no trap stops, the least of these; None if none."""
    made_map(chart)
    check_lot(chart, traps)
    check_lot(chart, lot)
    left = roads_left(chart, traps)
    targets = roads_from(chart)
    starts = [(left[b], a) for a in lot for b in targets[a] if b in left]
    if not starts:
        return None
    # Where the lengths are alike, the least place at each step makes the least walk.
    many, place = min(starts)
    walk = [place]
    while many >= 0:
        place = min([b for b in targets[place] if left.get(b) == many])
        walk.append(place)
        many = many - 1
    return tuple(walk)


def roads_left(chart, traps):
    """Return a dict: how many roads from a place to a wished one, past all traps, for each place where this can be."""
    stopped = set(traps)
    left = {place: 0 for place in chart[2] if place not in stopped}
    passed = {place: True for place in unwished_of(chart) if place not in stopped}
    latest = dict(left)
    many = 0
    while latest:
        many = many + 1
        latest = {a: True for a, b in chart[1] if b in latest and a in passed and a not in left}
        for place in latest:
            left[place] = many
    return left
