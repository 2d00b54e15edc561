"""Judges of ways and of papers. They use nothing of the package but its errors and maps, and find out all else."""

from fewtraps.maps import free_fits, is_map, is_number, lot_fits, place_fits, standing_fits, traps_fit
from fewtraps.maps import roads_from, traps_number_fits, unwished_of


def ways_right(chart, lot, free, thing):
    """Return whether thing is a tuple of ways from the lot that share nothing but free places."""
    if not is_map(chart) or not lot_fits(chart, lot) or not free_fits(chart, free):
        return False
    return isinstance(thing, tuple) and ways_fit(chart, lot, free, thing)


def endless_right(chart, k, standing, thing):
    """Return whether thing is an endless paper, which shows that there is no bound."""
    if not arguments_fit(chart, k, standing) or not tuple_fits(thing, 2):
        return False
    ground = Ground(chart)
    row, ways = thing
    if not later_row_fits(ground, standing, row) or not tuple_fits(ways, k + 1):
        return False
    return ways_fit(chart, ground.members_of(row), (), ways)


def book_right(chart, k, standing, thing):
    """Return whether thing is a book, which shows that there are no more idle stops than its number says."""
    if not arguments_fit(chart, k, standing) or not entries_fit(thing):
        return False
    ground = Ground(chart)
    if not all([row_fits(ground, row) and len(row) == len(standing) for row, _, _ in thing]) or not rows_ascend(thing):
        return False
    if not all([traps_fit(chart, k, traps) and is_number(j) and j >= 0 for _, traps, j in thing]):
        return False
    numbers = {row: j for row, _, j in thing}
    if ground.row_from(standing) not in numbers:
        return False
    return all([stops_fit(ground, numbers, row, traps) for row, traps, _ in thing])


def floor_right(chart, k, standing, thing):
    """Return whether thing is a floor, which shows that no smaller number of idle stops can be promised."""
    if not arguments_fit(chart, k, standing) or not entries_fit(thing):
        return False
    ground = Ground(chart)
    if not all([later_row_fits(ground, standing, row) for row, _, _ in thing]) or not rows_ascend(thing):
        return False
    if not all([is_number(h) and h >= 1 and tuple_fits(ways, k + 1) for _, h, ways in thing]):
        return False
    numbers = {row: h for row, h, _ in thing}
    for row, h, ways in thing:
        if not ways_fit(chart, ground.members_of(row), free_at(ground, numbers, row, h), ways):
            return False
    return True


def unsafe_right(chart, k, a, thing):
    """Return whether thing is a tuple of pairs that shows that place a is not safe."""
    if not is_map(chart) or not traps_number_fits(k) or not place_fits(chart, a):
        return False
    if not isinstance(thing, tuple) or not all([tuple_fits(pair, 2) for pair in thing]):
        return False
    told = [place for place, _ in thing]
    if not told or not all([place_fits(chart, place) for place in told]) or told[-1] != a:
        return False
    # Of the places told only the last one may be wished.
    if len(set(told)) < len(told) or not free_fits(chart, tuple(sorted(told[:-1]))):
        return False
    for index, (place, ways) in enumerate(thing):
        if not tuple_fits(ways, k + 1) or not ways_fit(chart, (place,), told[:index], ways):
            return False
    return True


# The functions below take a chart that is a map.


def tuple_fits(thing, many):
    """Return whether thing is a tuple of so many items."""
    return isinstance(thing, tuple) and len(thing) == many


def entries_fit(thing):
    """Return whether thing is a tuple of tuples of three items."""
    return isinstance(thing, tuple) and all([tuple_fits(entry, 3) for entry in thing])


def rows_ascend(entries):
    """Return whether the row of each entry is greater than that of the one before it."""
    return all([one[0] < other[0] for one, other in zip(entries, entries[1:])])


def arguments_fit(chart, k, standing):
    """Return whether these are a map, a number of traps and a standing."""
    return is_map(chart) and traps_number_fits(k) and standing_fits(chart, standing)


def ways_fit(chart, lot, free, things):
    """Return whether these things are ways from the lot that share nothing but free places."""
    if not all([way_fits(chart, lot, thing) for thing in things]):
        return False
    shared = {place: True for place in unwished_of(chart) if place in lot or place in free}
    used = {}
    for way in things:
        for place in way[1:]:
            if place in used:
                return False
            if place not in shared:
                used[place] = True
    return True


def way_fits(chart, lot, thing):
    """Return whether thing is a way from the lot."""
    if not isinstance(thing, tuple) or len(thing) < 2 or not all([place_fits(chart, place) for place in thing]):
        return False
    wished = set(chart[2])
    if thing[0] not in lot or thing[-1] not in wished or any([place in wished for place in thing[1:-1]]):
        return False
    roads = set(chart[1])
    return all([road in roads for road in zip(thing, thing[1:])])


class Ground:
    """What the judges find out about a map by themselves."""

    def __init__(self, chart):
        self.chart = chart
        self.wishes = {place: True for place in chart[2]}
        self.targets = roads_from(chart)
        # To which unwished places each place comes.
        self.comes = [self.walked_from([place], ())[0] for place in range(chart[0])]
        # The least place of the piece of each place.
        self.firsts = [self._first_of(place) for place in range(chart[0])]
        self.pieces = {}
        for place in range(chart[0]):
            self.pieces.setdefault(self.firsts[place], []).append(place)

    def _first_of(self, place):
        if place in self.wishes:
            return place
        return min([place] + [other for other in self.comes[place] if place in self.comes[other]])

    def row_from(self, standing):
        """Return the row of the standing."""
        return tuple([self.firsts[place] for place in standing])

    def members_of(self, row):
        """Return the list of the members of the row."""
        return sorted({member for place in row for member in self.pieces[place]})

    def walked_from(self, starts, traps):
        """Return three dicts: the unwished places without a trap to which walks lead that are stopped by the first
        trap, the unwished places with a trap at which they are stopped, and the wished places at which they are not.
        """
        passed = {}
        stopped = {}
        missed = {}
        waiting = list(starts)
        while waiting:
            place = waiting.pop()
            for target in self.targets[place]:
                if target in self.wishes:
                    if target not in traps:
                        missed[target] = True
                elif target in traps:
                    stopped[target] = True
                elif target not in passed:
                    passed[target] = True
                    waiting.append(target)
        return passed, stopped, missed


def row_fits(ground, thing):
    """Return whether thing is the row of a standing."""
    return standing_fits(ground.chart, thing) and ground.row_from(thing) == thing


def later_row_fits(ground, standing, thing):
    """Return whether thing is the row of a standing that is later than the standing."""
    if not row_fits(ground, thing) or len(thing) != len(standing):
        return False
    # A thread is in its own piece or at an unwished place to which it comes.
    return all([b == ground.firsts[a] or b in ground.comes[a] for a, b in zip(standing, thing)])


def stops_fit(ground, numbers, row, traps):
    """Return whether the traps cut the members of the row, and each outcome has a smaller number than the row."""
    stays = []
    stops = []
    for place in row:
        passed, stopped, missed = ground.walked_from(ground.pieces[place], traps)
        if missed:
            return False
        stays.append(sorted({ground.firsts[other] for other in [place] + list(passed)}))
        stops.append(sorted({ground.firsts[other] for other in stopped}))
    for i in range(len(row)):
        outcomes = [()]
        for firsts in stays[:i] + [stops[i]] + stays[i + 1:]:
            outcomes = [begun + (first,) for begun in outcomes for first in firsts]
        if not all([outcome in numbers and numbers[outcome] < numbers[row] for outcome in outcomes]):
            return False
    return True


def free_at(ground, numbers, row, h):
    """Return the list of the places that the ways of an entry with this row and number may share."""
    free = []
    for i, place in enumerate(row):
        for other in ground.comes[place]:
            # A row without an entry has the number 0.
            if numbers.get(row[:i] + (ground.firsts[other],) + row[i + 1:], 0) >= h - 1:
                free.append(other)
    return free
