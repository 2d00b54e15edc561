"""Plain reckonings of rows, bounds, outcomes and rounds, straight from the words of the document."""

import itertools

from tests.cases import lots_of
from tests.plain import come_to, extreme_walls, regions_of


class Reckoning:
    """One map, of which each thing is worked out once."""

    def __init__(self, chart):
        self.chart = chart
        self.places, self.roads, self.wished = chart
        self.unwished = [place for place in range(self.places) if place not in self.wished]
        self.come = {a: come_to(chart, (a,)) for a in range(self.places)}
        self.pieces = {a: self.piece(a) for a in range(self.places)}
        self.regions = {}
        self.plans = {}

    def piece(self, a):
        if a in self.wished:
            return (a,)
        return tuple(b for b in self.unwished if a == b or (b in self.come[a] and a in self.come[b]))

    def standings(self, threads):
        return list(itertools.product(range(self.places), repeat=threads))

    def row(self, standing):
        return tuple(min(self.pieces[place]) for place in standing)

    def members(self, standing):
        return tuple(sorted({member for place in standing for member in self.pieces[place]}))

    def is_later(self, one, two):
        return len(one) == len(two) and all(
            b in self.pieces[a] or (b in self.come[a] and b not in self.wished) for a, b in zip(one, two))

    def later_rows(self, standing):
        every = self.standings(len(standing))
        return [row for row in every if self.row(row) == row and self.is_later(standing, row)]

    def pinch(self, lot, free):
        if lot not in self.regions:
            self.regions[lot] = regions_of(self.chart, lot)
        return extreme_walls(self.regions[lot], free)[0]

    def wall(self, standing):
        return len(self.pinch(self.members(standing), ()))

    def need(self, k, row, w):
        threads = [i for i, place in enumerate(row) if w in self.come[place]]
        if any(w in self.pieces[row[i]] for i in threads):
            return None
        bounds = [self.plan(k, row[:i] + (w,) + row[i + 1:])[0] for i in threads]
        return None if None in bounds else max(bounds, default=-1) + 1

    def plan(self, k, standing):
        """Return the bound and the lay by [6], trying each number from 0 on."""
        row = self.row(standing)
        if (k, row) not in self.plans:
            needs = {w: self.need(k, row, w) for w in self.unwished}
            numbers = [need for need in needs.values() if need is not None]
            self.plans[k, row] = (None, None)
            for j in range(max(numbers, default=0) + 1):
                free = [w for w in needs if needs[w] is None or needs[w] > j]
                pinch = self.pinch(self.members(row), tuple(free))
                if len(pinch) <= k:
                    self.plans[k, row] = (j, pinch)
                    break
        return self.plans[k, row]

    def least_lots(self, k, standing):
        """Return the bound by [6.3], trying all lots of at most k places."""
        row = self.row(standing)
        needs = {w: self.need(k, row, w) for w in self.unwished}
        found = []
        for lot in lots_of(range(self.places), k):
            inner = [needs[w] for w in lot if w in self.unwished]
            if None not in inner and not self.walked(self.members(row), lot)[2]:
                found.append(max(inner, default=0))
        return min(found, default=None)

    def walked(self, starts, traps):
        """Return the places that walks from starts come to past all traps, the unwished stops, and the misses."""
        passed = set()
        stops = set()
        misses = set()
        latest = set(starts)
        while latest:
            came = {b for a, b in self.roads if a in latest}
            stops |= {b for b in came if b in traps and b not in self.wished}
            misses |= {b for b in came if b not in traps and b in self.wished}
            latest = {b for b in came if b not in traps and b not in self.wished} - passed
            passed |= latest
        return passed, stops, misses

    def outcomes(self, row, traps):
        """Return the set of the rows after an idle stop, by [8]."""
        walked = [self.walked(self.pieces[place], traps) for place in row]
        found = set()
        for i in range(len(row)):
            choices = [walked[t][1] if t == i else {row[t]} | walked[t][0] for t in range(len(row))]
            found |= {self.row(standing) for standing in itertools.product(*choices)}
        return found

    def book(self, k, standing):
        """Return the rows of a book: that of the standing, and all outcomes where the lays are laid."""
        found = {self.row(standing)}
        latest = found
        while latest:
            latest = {outcome for row in latest for outcome in self.outcomes(row, self.plan(k, row)[1])} - found
            found = found | latest
        return sorted(found)

    def rounds(self, k):
        """Return the rounds by [9]."""
        gone = {}
        number = 0
        going = True
        while going:
            number += 1
            free = tuple(w for w in self.unwished if w in gone)
            going = [a for a in range(self.places) if a not in gone and len(self.pinch((a,), free)) > k]
            gone.update({a: number for a in going})
        return tuple(gone.get(a, 0) for a in range(self.places))


class Game:
    """What a debugger with k traps can promise, found by playing all standings of so many threads to the end."""

    def __init__(self, chart, k, threads):
        self.places, self.roads, self.wished = chart
        self.standings = list(itertools.product(range(self.places), repeat=threads))
        lots = lots_of(range(self.places), k)
        # For each standing, for each lot that lets no miss happen, the standings at the next idle stop.
        self.stops = {one: [self.stops_from(one, lot) for lot in lots] for one in self.standings}

    def stops_from(self, standing, traps):
        """Return the standings at the next idle stop, None if there can be a miss."""
        came = {standing}
        waiting = [standing]
        stops = set()
        while waiting:
            here = waiting.pop()
            for i, place in enumerate(here):
                for b in [b for a, b in self.roads if a == place]:
                    behind = here[:i] + (b,) + here[i + 1:]
                    if b in traps:
                        stops |= {behind} if b not in self.wished else set()
                    elif b in self.wished:
                        return None
                    elif behind not in came:
                        came.add(behind)
                        waiting.append(behind)
        return stops

    def bounds(self):
        """Return a dict with the least number of idle stops that can be promised from each standing, None if none."""
        kept = {}
        number = 0
        more = True
        while more:
            more = [one for one in self.standings if one not in kept
                    and any(stops is not None and stops <= set(kept) for stops in self.stops[one])]
            kept.update({one: number for one in more})
            number += 1
        return {one: kept.get(one) for one in self.standings}

    def never_missed(self):
        """Return the standings from which a miss ahead of the next wished stop can be ruled out."""
        kept = set(self.standings)
        fewer = None
        while fewer != kept:
            fewer = kept
            kept = {one for one in fewer
                    if any(stops is not None and stops <= fewer for stops in self.stops[one])}
        return kept
