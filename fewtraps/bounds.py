"""The least number of idle stops that can be promised for a leg, and where to lay the traps for it."""

from fewtraps.maps import MOST_TRAPS
from fewtraps.plans import Plan, later_plan
from fewtraps.standings import later_rows
from fewtraps.surveys import Survey


def bound(chart, k, standing):
    """Return the bound of the standing for k traps, None if there is none."""
    plan = later_plan(chart, k, standing)
    return plan.bounds[plan.survey.row_from(standing)]


def lay(chart, k, standing):
    """Return the lot to lay at the standing with k traps, None if there is no bound."""
    plan = later_plan(chart, k, standing)
    return plan.lays[plan.survey.row_from(standing)]


def curve(chart, standing):
    """Return the bounds of the standing for all numbers of traps from 0 on."""
    rows = later_rows(chart, standing)
    survey = Survey(chart)
    row = survey.row_from(standing)
    return tuple([Plan(survey, k, rows).bounds[row] for k in range(MOST_TRAPS + 1)])
