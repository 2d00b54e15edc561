"""Plans: the bounds of all rows that are asked for, and the traps that keep them."""

from fewtraps.maps import check_traps_number, made_map
from fewtraps.nets import Flow
from fewtraps.standings import later_rows
from fewtraps.surveys import Survey


class Plan:
    """The bounds and lays, for k traps, of the rows given; all rows that are later than one of them are among them."""

    def __init__(self, survey, k, rows):
        self.survey = survey
        self.k = k
        self.bounds = {}
        self.lays = {}
        self._add_all(rows)

    def lay_at(self, standing):
        """Return the lay of the standing, None if there is no bound; its later rows are added if they are new."""
        row = self.survey.row_from(standing)
        if row not in self.lays:
            self._add_all(later_rows(self.survey.chart, standing))
        return self.lays[row]

    def number_with(self, row, i, first):
        """Return the bound of the row with this piece for thread i."""
        return self.bounds[row[:i] + (first,) + row[i + 1:]]

    def _add_all(self, rows):
        # The bound of a row rests on those of the later ones.
        for _, row in sorted([(self.survey.rank_of(each), each) for each in rows if each not in self.bounds]):
            self._add(row)

    def _add(self, row):
        survey = self.survey
        lot = survey.members_of(row)
        needs = self._needs_of(row)
        bound = None
        traps = None
        # The fewer places are free, the fewer traps it takes: behind the first number that fails no smaller one does.
        for j in sorted({need for need in [0] + list(needs.values()) if need is not None})[::-1]:
            free = survey.unwished_in([first for first in needs if needs[first] is None or needs[first] > j])
            flow = Flow(survey.net, lot, free, self.k)
            if flow.many() > self.k:
                break
            bound = j
            traps = flow.near()
        self.bounds[row] = bound
        self.lays[row] = traps

    def _needs_of(self, row):
        """Return a dict: the need of the places of each piece to which a thread comes."""
        needs = {}
        for i, place in enumerate(row):
            for first in self.survey.firsts[place]:
                before = needs.get(first, 0)
                bound = None if first == place else self.number_with(row, i, first)
                needs[first] = None if before is None or bound is None else max(before, bound + 1)
        return needs


def later_plan(chart, k, standing):
    """Return the plan of all rows that are later than the standing; raise what bound raises."""
    made_map(chart)
    check_traps_number(k)
    rows = later_rows(chart, standing)
    return Plan(Survey(chart), k, rows)
