"""Wardens: debuggers that lay traps by where the threads are seen, and the plays that beat them."""

from fewtraps.errors import BadNumber, BadWarden, Refused, TooMany
from fewtraps.hunts import Hunt
from fewtraps.maps import MOST_THREADS, check_traps_number, made_map, number_within, standing_fits, traps_fit
from fewtraps.plans import Plan
from fewtraps.standings import made_standing
from fewtraps.surveys import Survey

MOST_PAIRS = 400
MOST_STANDINGS = 225
MOST_IDLE = 20


def made_warden(chart, k, thing):
    """Return the warden; raise BadWarden if thing is not one."""
    made_map(chart)
    check_traps_number(k)
    if not isinstance(thing, tuple) or len(thing) > MOST_PAIRS:
        raise BadWarden(-1)
    for index, pair in enumerate(thing):
        if not pair_fits(chart, k, pair):
            raise BadWarden(index)
        if index > 0 and pair[0] <= thing[index - 1][0]:
            raise BadWarden(index)
    return thing


def is_warden(chart, k, thing):
    """Return whether thing is a warden."""
    try:
        made_warden(chart, k, thing)
    except Refused:
        return False
    return True


def plan_warden(chart, k, n):
    """Return the warden that lays the best lot at each standing of n threads that has a bound."""
    made_map(chart)
    check_traps_number(k)
    if not number_within(n, 1, MOST_THREADS):
        raise BadNumber(n)
    check_standings(chart, n)
    standings = [()]
    for _ in range(n):
        standings = [begun + (place,) for begun in standings for place in range(chart[0])]
    survey = Survey(chart)
    plan = Plan(survey, k, [standing for standing in standings if survey.row_from(standing) == standing])
    lays = [(standing, plan.lays[survey.row_from(standing)]) for standing in standings]
    return tuple([(standing, traps) for standing, traps in lays if traps is not None])


def beaten(chart, k, standing, warden, j):
    """Return a play in which the warden has a miss or more than j idle stops in a leg, None if there is none."""
    made_map(chart)
    check_traps_number(k)
    made_standing(chart, standing)
    made_warden(chart, k, warden)
    if not number_within(j, 0, MOST_IDLE):
        raise BadNumber(j)
    check_standings(chart, len(standing))
    return Hunt(chart, warden).play_from(standing, j)


def pair_fits(chart, k, thing):
    """Return whether thing is a pair of a standing and a lot of at most k places."""
    if not isinstance(thing, tuple) or len(thing) != 2:
        return False
    return standing_fits(chart, thing[0]) and traps_fit(chart, k, thing[1])


def check_standings(chart, n):
    """Raise TooMany if n threads have more standings than are gone through."""
    count = 1
    for _ in range(n):
        count = count * chart[0]
    if count > MOST_STANDINGS:
        raise TooMany(count)
