"""Books show that a bound is kept, floors that there is no smaller one."""

from fewtraps.nets import Flow
from fewtraps.outcomes import outcomes_of
from fewtraps.plans import later_plan


def book(chart, k, standing):
    """Return the entries (row, traps, bound) of the row of the standing and of all outcomes, None without a bound."""
    plan = later_plan(chart, k, standing)
    row = plan.survey.row_from(standing)
    if plan.bounds[row] is None:
        return None
    found = {row: True}
    waiting = [row]
    while waiting:
        row = waiting.pop()
        for outcome in outcomes_of(plan.survey, row, plan.lays[row]):
            if outcome not in found:
                found[outcome] = True
                waiting.append(outcome)
    return tuple([(row, plan.lays[row], plan.bounds[row]) for row in sorted(found)])


def floor(chart, k, standing):
    """Return the entries (row, bound, ways) of all later rows with a bound above 0, None without a bound."""
    plan = later_plan(chart, k, standing)
    if plan.bounds[plan.survey.row_from(standing)] is None:
        return None
    rows = [row for row in sorted(plan.bounds) if plan.bounds[row] > 0]
    return tuple([(row, plan.bounds[row], ways_of(plan, row)) for row in rows])


def ways_of(plan, row):
    """Return one way more than there are traps, sharing only places where a row may need just one stop less."""
    survey = plan.survey
    needed = plan.bounds[row] - 1
    firsts = [first for i, place in enumerate(row) for first in survey.firsts[place]
              if plan.number_with(row, i, first) >= needed]
    return Flow(survey.net, survey.members_of(row), survey.unwished_in(firsts), plan.k).ways()
