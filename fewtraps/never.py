"""From where one thread need never be missed before its next wished stop, and where to lay the traps for it."""

from fewtraps.maps import check_place, check_traps_number, made_map, unwished_of
from fewtraps.nets import MANY, Flow, Net


def rounds(chart, k):
    """Return for each place the number of the round in which it goes, 0 if it is safe."""
    made_map(chart)
    check_traps_number(k)
    return tuple(rounds_of(Net(chart), k))


def safe(chart, k, a):
    """Return whether place a is safe."""
    return checked_rounds(chart, k, a)[a] == 0


def safe_lay(chart, k, a):
    """Return the lot to lay where the one thread stands at place a, None if a is not safe."""
    gone = checked_rounds(chart, k, a)
    if gone[a] > 0:
        return None
    free = [place for place in unwished_of(chart) if gone[place] > 0]
    return Flow(Net(chart), (a,), free, MANY).near()


def unsafe(chart, k, a):
    """Return the pairs (place, ways) of the places that go ahead of a, and of a itself; None if a is safe."""
    gone = checked_rounds(chart, k, a)
    if gone[a] == 0:
        return None
    earlier = sorted([(gone[place], place) for place in unwished_of(chart) if 0 < gone[place] < gone[a]])
    net = Net(chart)
    free = []
    found = []
    for place in [place for _, place in earlier] + [a]:
        found.append((place, Flow(net, (place,), free, k).ways()))
        free.append(place)
    return tuple(found)


def checked_rounds(chart, k, a):
    """Return the list of the rounds; raise what safe raises."""
    made_map(chart)
    check_traps_number(k)
    check_place(chart, a)
    return rounds_of(Net(chart), k)


def rounds_of(net, k):
    """Return the list of the rounds of all places."""
    gone = [0] * net.chart[0]
    number = 1
    going = places_going(net, k, gone)
    while going:
        for place in going:
            gone[place] = number
        number = number + 1
        going = places_going(net, k, gone)
    return gone


def places_going(net, k, gone):
    """Return the list of the places that go in the next round."""
    free = [place for place in unwished_of(net.chart) if gone[place] > 0]
    here = [place for place in range(net.chart[0]) if gone[place] == 0]
    return [place for place in here if Flow(net, (place,), free, k).many() > k]
