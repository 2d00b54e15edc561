"""In which rows threads can be seen at their next idle stop."""

from fewtraps.reach import reached


def outcomes_of(survey, row, traps):
    """Return the rows after an idle stop, from this row with these traps, ascending."""
    places, roads, wished = survey.chart
    # Where places with a trap are wished, too, a walk ends at the first place that stops it.
    trapped = (places, roads, tuple(sorted({place for place in wished + traps})))
    stops = []
    stays = []
    for place in row:
        come = [other for other in reached(trapped, survey.table[place]) if other not in wished]
        stops.append([survey.table[other][0] for other in come if other in traps])
        stays.append([place] + [survey.table[other][0] for other in come if other not in traps])
    found = {}
    for i in range(len(row)):
        for outcome in all_choices(stays[:i] + [stops[i]] + stays[i + 1:]):
            found[outcome] = True
    return sorted(found)


def all_choices(choices):
    """Return all tuples with one item of each list."""
    found = [()]
    for items in choices:
        kept = {item: True for item in items}
        found = [before + (item,) for before in found for item in kept]
    return found
