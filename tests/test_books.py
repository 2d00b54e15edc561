import collections
import random

from fewtraps.books import book, floor
from fewtraps.bounds import bound, lay
from fewtraps.kernel import book_right, floor_right
from fewtraps.outcomes import outcomes_of
from fewtraps.surveys import Survey
from tests.cases import (CHAIN, FULL60, M2, M3, RING60, SELF, SPINE, Case, M, all_maps, layered_maps, some_lot,
                         some_maps, spine_maps, standings_of)
from tests.plain import fault_of_ways
from tests.reckoning import Reckoning

# From 0 to 1 and 2, from each of these to two of 3, 4 and 5; then, apart, from 6 to 7 and from there to 8.
APART = (9, ((0, 1), (0, 2), (1, 3), (1, 4), (2, 4), (2, 5), (6, 7), (7, 8)), (3, 4, 5))


def some_tries(seed):
    """Yield maps, numbers of traps and standings, many of them with bounds above 0."""
    chance = random.Random(seed)
    for chart in list(all_maps(2)) + list(some_maps(30, 3, 6, seed)):
        for threads in (1, 2, 3):
            for k in (0, 1, 2):
                yield chart, k, chance.choice(standings_of(chart, threads))
    for threads, most in ((1, 12), (2, 11), (3, 7)):
        for chart in list(layered_maps(60, 6, most, seed + most)) + list(spine_maps(100, 6, most, seed + most)):
            for k in (2, 3):
                yield chart, k, tuple(chance.randrange(chart[0]) for _ in range(threads))



class TestBook(Case):
    def right(self, chart, k, standing):
        """Expect None without a bound, otherwise just the entries that the document names; return the book."""
        found = self.plain(book(chart, k, standing))
        reckoning = Reckoning(chart)
        if reckoning.plan(k, standing)[0] is None:
            self.same(found, None)
            return None
        rows = reckoning.book(k, standing)
        self.same(found, tuple((row, reckoning.plan(k, row)[1], reckoning.plan(k, row)[0]) for row in rows))
        self.same(book_right(chart, k, standing, found), True)
        self.same(book(chart, k, standing), found)
        return found

    def test_examples(self):
        self.same(self.right(M, 2, (0,)), (((0,), (2, 3), 1), ((2,), (4, 5), 0), ((3,), (6, 7), 0)))
        self.same(self.right(M3, 2, (0,)),
                  (((0,), (1, 2), 2), ((1,), (0, 4), 0), ((2,), (3, 5), 1), ((3,), (0, 6), 0)))
        self.same(self.right(M, 1, (0,)), None)

    def test_without_idle_stops(self):
        self.same(self.right(M, 4, (0,)), (((0,), (4, 5, 6, 7), 0),))
        self.same(self.right(M, 2, (4, 7)), (((4, 7), (), 0),))
        self.same(self.right(CHAIN, 1, (1,)), (((1,), (3,), 0),))
        self.same(self.right(SELF, 1, (0, 0)), (((0, 0), (0,), 0),))
        self.same(self.right(M2, 3, (2,)), (((0,), (4, 5, 6), 0),))
        self.same(self.right(RING60, 0, (5,)), (((0,), (), 0),))

    def test_the_other_thread_rests_or_goes_on_unseen(self):
        found = self.right(APART, 2, (0, 6))
        self.same([row for row, _, _ in found], [(0, 6), (1, 6), (1, 7), (1, 8), (2, 6), (2, 7), (2, 8)])
        self.same([j for _, _, j in found], [1, 0, 0, 0, 0, 0, 0])
        found = self.right(APART, 2, (7, 0))
        self.same([row for row, _, _ in found], [(7, 0), (7, 1), (7, 2), (8, 1), (8, 2)])

    def test_entries_ascend(self):
        # The book goes from 2 to 1 to 0.
        chart = (7, ((0, 3), (0, 4), (1, 0), (1, 5), (2, 1), (2, 6)), (3, 4, 5, 6))
        self.same(self.right(chart, 2, (2,)), (((0,), (3, 4), 0), ((1,), (0, 5), 1), ((2,), (1, 6), 2)))

    def test_small_and_other_maps(self):
        sizes = collections.Counter(len(self.right(*tried) or ()) for tried in some_tries(221))
        self.assertLessEqual({0, 1, 2, 3, 4}, set(sizes))

    def test_large_maps(self):
        found = book(SPINE, 2, (0,))
        self.same(found[:2], (((0,), (1, 30), 28), ((1,), (2, 31), 27)))
        self.same((len(found), found[-1]), (29, ((28,), (58, 59), 0)))
        self.same(book_right(SPINE, 2, (0,), found), True)
        self.same(book(FULL60, 4, (3,)), (((3,), (50, 51, 52, 53), 0),))
        self.same(book(FULL60, 3, (3,)), None)


class TestOutcomes(Case):
    def outcomes(self, chart, row, traps):
        found = outcomes_of(Survey(chart), row, traps)
        self.assertEqual(found, sorted(set(found)))
        return found

    def test_threads_are_stopped_by_traps(self):
        self.same(self.outcomes(M, (0,), (2, 3)), [(2,), (3,)])
        self.same(self.outcomes(M, (0,), (1, 2, 3)), [(1,)])
        self.same(self.outcomes(M, (0,), (4, 5)), [])
        self.same(self.outcomes(M, (0,), ()), [])
        self.same(self.outcomes(M2, (0,), (2, 4)), [(0,)])

    def test_the_other_thread_passes_no_trap(self):
        self.same(self.outcomes(APART, (0, 6), (1, 2, 8)), [(0, 8), (1, 6), (1, 7), (2, 6), (2, 7)])
        self.same(self.outcomes(APART, (0, 6), (1, 2, 7)), [(0, 7), (1, 6), (2, 6)])

    def test_a_trap_where_a_thread_stands(self):
        # It does not stop the thread that stands there, and stops the other one.
        chart = (4, ((0, 1), (1, 2), (1, 3)), (3,))
        self.same(self.outcomes(chart, (0, 1), (1,)), [(1, 1), (1, 2)])
        self.same(self.outcomes(chart, (1, 1), (1,)), [])
        # It stops a thread that comes back to it.
        self.same(self.outcomes(M, (0,), (0, 1)), [(0,), (1,)])

    def test_a_thread_at_a_wished_place(self):
        self.same(self.outcomes(M3, (0,), (1, 3)), [(1,), (3,)])
        self.same(self.outcomes(M3, (0,), (0, 3)), [(3,)])

    def test_all_outcomes(self):
        chance = random.Random(224)
        for chart in list(some_maps(80, 3, 7, 225)) + list(layered_maps(80, 4, 9, 226)):
            reckoning = Reckoning(chart)
            for threads in (1, 2, 3):
                row = reckoning.row(chance.choice(standings_of(chart, threads)))
                traps = some_lot(chance, range(chart[0]))
                self.assertEqual(self.outcomes(chart, row, traps), sorted(reckoning.outcomes(row, traps)))


class TestFloor(Case):
    def right(self, chart, k, standing):
        """Expect None without a bound, otherwise just the entries that the document names; return the floor."""
        found = self.plain(floor(chart, k, standing))
        reckoning = Reckoning(chart)
        number = reckoning.plan(k, standing)[0]
        if number is None:
            self.same(found, None)
            return None
        bounds = {row: reckoning.plan(k, row)[0] for row in reckoning.later_rows(standing)}
        self.same([(row, h) for row, h, _ in found], [(row, bounds[row]) for row in sorted(bounds) if bounds[row] > 0])
        for row, h, ways in found:
            free = [w for w in reckoning.unwished for i, place in enumerate(row) if w in reckoning.come[place]
                    and bounds[reckoning.row(row[:i] + (w,) + row[i + 1:])] >= h - 1]
            self.same(len(ways), k + 1)
            self.same(fault_of_ways(chart, reckoning.members(row), free, ways), None)
        self.assertEqual(found == (), number == 0)
        self.same(floor_right(chart, k, standing, found), True)
        self.same(floor(chart, k, standing), found)
        return found

    def test_examples(self):
        self.same([(row, h, len(ways)) for row, h, ways in self.right(M, 2, (0,))], [((0,), 1, 3), ((1,), 1, 3)])
        self.same(self.right(M, 4, (0,)), ())
        self.same(self.right(M, 1, (0,)), None)

    def test_some_floors(self):
        self.same([entry[:2] for entry in self.right(M3, 2, (0,))], [((0,), 2), ((2,), 1)])
        self.same([entry[:2] for entry in self.right(APART, 2, (0, 6))],
                  [((0, 6), 1), ((0, 7), 1), ((0, 8), 1)])
        self.same(self.right(M, 0, (4,)), ())
        self.same(self.right(RING60, 0, (5,)), ())

    def test_small_and_other_maps(self):
        sizes = collections.Counter(len(self.right(*tried) or ()) for tried in some_tries(227))
        self.assertLessEqual({0, 1, 2, 3}, set(sizes))

    def test_large_maps(self):
        found = floor(SPINE, 2, (0,))
        self.same([(row, h) for row, h, _ in found], [((place,), 28 - place) for place in range(28)])
        self.same(floor_right(SPINE, 2, (0,), found), True)
        self.same([h for _, h, _ in floor(SPINE, 8, (0,))], [4] + [3] * 7 + [2] * 7 + [1] * 7)


class TestBooksAndFloors(Case):
    def test_what_they_show(self):
        for chart in layered_maps(60, 6, 12, 230):
            for standing in standings_of(chart, 1):
                for k in (2, 3):
                    number = bound(chart, k, standing)
                    shown = {row: (traps, j) for row, traps, j in book(chart, k, standing) or ()}
                    row = Reckoning(chart).row(standing)
                    self.same(shown.get(row), None if number is None else (lay(chart, k, standing), number))
                    below = {row: h for row, h, _ in floor(chart, k, standing) or ()}
                    self.same(below.get(row), number or None)

    def test_arguments(self):
        self.checks_arguments(book, k=1)
        self.checks_arguments(floor, k=1)

    def test_sizes(self):
        self.checks_size(book, k=1)
        self.checks_size(floor, k=1)

    def test_by_names(self):
        self.same(self.by_names(book, chart=M, k=4, standing=(0,)), (((0,), (4, 5, 6, 7), 0),))
        self.same(self.by_names(floor, chart=M, k=4, standing=(0,)), ())
