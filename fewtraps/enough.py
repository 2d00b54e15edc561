"""How many traps are enough for a bound, and what shows that fewer are not."""

from fewtraps.maps import check_traps_number, made_map
from fewtraps.nets import MANY, Flow
from fewtraps.standings import later_rows
from fewtraps.surveys import Survey


def enough(chart, standing):
    """Return the greatest wall of the members of a later row."""
    return widest_row(chart, standing)[0]


def widest(chart, standing):
    """Return the first later row whose members have the greatest wall."""
    return widest_row(chart, standing)[1]


def endless(chart, k, standing):
    """Return the first later row with a wall above k, and k + 1 ways that share nothing; None if there is none."""
    made_map(chart)
    check_traps_number(k)
    rows = later_rows(chart, standing)
    survey = Survey(chart)
    for row in rows:
        flow = Flow(survey.net, survey.members_of(row), (), k)
        if flow.many() > k:
            return (row, flow.ways())
    return None


def widest_row(chart, standing):
    """Return the greatest wall of the members of a later row, and the first row that has it."""
    rows = later_rows(chart, standing)
    survey = Survey(chart)
    most = -1
    first = None
    for row in rows:
        many = Flow(survey.net, survey.members_of(row), (), MANY).many()
        if many > most:
            most = many
            first = row
    return (most, first)
