"""To which places a place comes by walks whose inner places are unwished."""

from fewtraps.maps import check_place, made_map, roads_from


def comes(chart, a):
    """Return the unwished places that place a comes to, ascending."""
    made_map(chart)
    check_place(chart, a)
    return tuple(reached_unwished(chart, (a,)))


def ends(chart, a):
    """Return the wished places that place a comes to, ascending."""
    made_map(chart)
    check_place(chart, a)
    wished = set(chart[2])
    return tuple([place for place in reached(chart, (a,)) if place in wished])


def reached(chart, starts):
    """Return the list of all places that some place of starts comes to, ascending."""
    targets = roads_from(chart)
    wished = set(chart[2])
    found = {}
    waiting = list(starts)
    while waiting:
        place = waiting.pop()
        for target in targets[place]:
            if target not in found:
                found[target] = True
                # A walk ends at the first wished place behind its beginning.
                if target not in wished:
                    waiting.append(target)
    return sorted(found)


def reached_unwished(chart, starts):
    """Return the list of the unwished places that some place of starts comes to, ascending."""
    wished = set(chart[2])
    return [place for place in reached(chart, starts) if place not in wished]
