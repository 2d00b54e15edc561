"""Plays: which traps are laid and which thread goes where, and what comes of it."""

from fewtraps.errors import BadEvents, BadPlay
from fewtraps.maps import check_traps_number, made_map, place_fits, traps_fit
from fewtraps.standings import made_standing, thread_fits

EVENTS = ("lay", "on", "idle", "wished", "miss")
STOPS = ("idle", "wished")


def referee(chart, k, standing, play):
    """Return the events of all entries and the standing behind the last one."""
    made_map(chart)
    check_traps_number(k)
    made_standing(chart, standing)
    if not isinstance(play, tuple):
        raise BadPlay(-1)
    roads = {road: True for road in chart[1]}
    events = []
    traps = ()
    for index, entry in enumerate(play):
        lays = not events or events[-1] in STOPS
        if lays and lay_fits(chart, k, entry):
            traps = entry[1]
            events.append("lay")
        elif not lays and events[-1] != "miss" and go_fits(chart, roads, standing, entry):
            _, i, b = entry
            standing = standing[:i] + (b,) + standing[i + 1:]
            events.append(event_at(chart, traps, b))
        else:
            raise BadPlay(index)
    return (tuple(events), standing)


def most_idle(events):
    """Return the greatest number of idle stops between two wished ones, ahead of the first, or behind the last."""
    if not isinstance(events, tuple) or not all([event in EVENTS for event in events]):
        raise BadEvents(-1)
    most = 0
    many = 0
    for event in events:
        if event == "wished":
            many = 0
        elif event == "idle":
            many = many + 1
            most = max(most, many)
    return most


def event_at(chart, traps, place):
    """Return the event of a thread that comes to this place."""
    if place in chart[2]:
        return "wished" if place in traps else "miss"
    return "idle" if place in traps else "on"


def lay_fits(chart, k, thing):
    """Return whether thing is an entry that lays at most k traps."""
    if not isinstance(thing, tuple) or len(thing) != 2:
        return False
    return thing[0] == "lay" and traps_fit(chart, k, thing[1])


def go_fits(chart, roads, standing, thing):
    """Return whether thing is an entry by which a thread of the standing goes along a road."""
    if not isinstance(thing, tuple) or len(thing) != 3:
        return False
    word, i, b = thing
    if word != "go" or not thread_fits(standing, i) or not place_fits(chart, b):
        return False
    return (standing[i], b) in roads
