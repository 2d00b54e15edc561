"""The least number of idle stops that can be promised if each thread has traps of its own."""

from fewtraps.maps import check_traps_number, made_map
from fewtraps.plans import Plan
from fewtraps.standings import later_rows, made_standing
from fewtraps.surveys import Survey


def own_bound(chart, k, standing):
    """Return the sum of the bounds of the single threads, None if one of them has none."""
    bounds = [bound for bound, _ in single_plans(chart, k, standing)]
    return None if None in bounds else sum(bounds)


def own_lays(chart, k, standing):
    """Return for each thread the lot to lay for it, None if one of them has no bound."""
    lays = [traps for _, traps in single_plans(chart, k, standing)]
    return None if None in lays else tuple(lays)


def single_plans(chart, k, standing):
    """Return for each thread the pair of the bound and the lay that it has alone."""
    made_map(chart)
    check_traps_number(k)
    made_standing(chart, standing)
    survey = Survey(chart)
    found = []
    for place in standing:
        # For one thread there are never too many rows.
        plan = Plan(survey, k, later_rows(chart, (place,)))
        row = survey.row_from((place,))
        found.append((plan.bounds[row], plan.lays[row]))
    return found
