import random

from fewtraps.bounds import bound
from fewtraps.enough import endless, enough, widest
from fewtraps.kernel import endless_right
from tests.cases import (CHAIN60, FULL60, M2, RING60, SELF, SPINE, Case, M, all_maps, layered_maps, some_maps,
                         standings_of)
from tests.plain import fault_of_ways
from tests.reckoning import Reckoning

M5 = (5, ((0, 0), (0, 2), (1, 1), (1, 2), (2, 3), (2, 4)), (3, 4))

# From 0 to 1 and 2, from each of these to two wished places.
TWINS = (7, ((0, 1), (0, 2), (1, 3), (1, 4), (2, 5), (2, 6)), (3, 4, 5, 6))


class TestEnough(Case):
    def both(self, chart, standing):
        return (enough(chart, standing), widest(chart, standing))

    def test_examples(self):
        self.same((enough(M5, (0, 1)), widest(M5, (0, 1)), endless(M5, 2, (0, 1))), (2, (0, 2), None))
        self.same(endless(M5, 1, (0, 1))[0], (0, 2))

    def test_the_first_of_several_rows(self):
        self.same(self.both(TWINS, (0,)), (2, (0,)))
        self.same(self.both(M, (0,)), (2, (1,)))
        self.same(self.both(TWINS, (0, 0)), (4, (1, 2)))
        self.same(self.both(TWINS, (0, 2)), (4, (1, 2)))
        self.same(self.both(TWINS, (1, 2)), (4, (1, 2)))
        self.same(self.both(TWINS, (2, 0)), (4, (2, 1)))

    def test_the_row_of_the_standing(self):
        self.same(self.both(M2, (3,)), (3, (0,)))
        self.same(self.both(SELF, (0, 0)), (1, (0, 0)))
        self.same(self.both(M, (4, 7)), (0, (4, 7)))
        self.same(self.both(RING60, (5, 6, 7)), (0, (0, 0, 0)))

    def test_more_than_8(self):
        star = (60, tuple((0, b) for b in range(1, 60)), tuple(range(1, 60)))
        self.same(self.both(star, (0,)), (59, (0,)))
        whole = (20, tuple((a, b) for a in range(2) for b in range(20)), tuple(range(20)))
        self.same(self.both(whole, (0, 1)), (20, (0, 1)))
        self.same(self.both(whole, (7, 1)), (20, (7, 1)))
        row, ways = endless(whole, 8, (7, 1))
        self.same((row, len(ways)), ((7, 1), 9))
        self.same(fault_of_ways(whole, (1, 7), (), ways), None)
        nine = (10, tuple((0, b) for b in range(1, 10)), tuple(range(1, 10)))
        self.same((enough(nine, (0,)), endless(nine, 8, (0,))[0], len(endless(nine, 7, (0,))[1])), (9, (0,), 8))

    def test_large_maps(self):
        self.same(self.both(CHAIN60, (0,)), (1, (0,)))
        self.same(self.both(SPINE, (0,)), (2, (0,)))
        self.same(self.both(FULL60, (0,)), (4, (0,)))

    def test_what_is_enough_by_all_regions(self):
        chance = random.Random(211)
        for chart in list(some_maps(40, 2, 6, 212)) + list(layered_maps(40, 4, 7, 213)) + list(all_maps(2)):
            reckoning = Reckoning(chart)
            for threads in (1, 2, 3):
                every = standings_of(chart, threads)
                for standing in chance.sample(every, min(3, len(every))):
                    rows = reckoning.later_rows(standing)
                    walls = [reckoning.wall(row) for row in rows]
                    self.same(self.both(chart, standing), (max(walls), rows[walls.index(max(walls))]))

    def test_a_bound_just_if_there_are_enough(self):
        for chart in layered_maps(40, 4, 10, 214):
            for standing in standings_of(chart, 1) + standings_of(chart, 2)[::9]:
                for k in range(5):
                    self.same(bound(chart, k, standing) is None, enough(chart, standing) > k)


class TestEndless(Case):
    def paper(self, chart, k, standing):
        """Expect None if there are enough traps, otherwise a paper as it is described; return it."""
        found = self.plain(endless(chart, k, standing))
        if enough(chart, standing) <= k:
            self.same(found, None)
            return None
        reckoning = Reckoning(chart)
        row, ways = found
        self.same(row, [row for row in reckoning.later_rows(standing) if reckoning.wall(row) > k][0])
        self.same(len(ways), k + 1)
        self.same(fault_of_ways(chart, reckoning.members(row), (), ways), None)
        self.same(endless_right(chart, k, standing, found), True)
        self.same(endless(chart, k, standing), found)
        return found

    def test_examples(self):
        self.same(self.paper(M5, 2, (0, 1)), None)
        self.same(self.paper(M5, 1, (0, 1))[0], (0, 2))

    def test_some_papers(self):
        self.same(self.paper(SELF, 0, (0,)), ((0,), ((0, 0),)))
        self.same(self.paper(SELF, 1, (0,)), None)
        self.same(self.paper(M, 1, (0,))[0], (1,))
        self.same(self.paper(M, 3, (0, 0))[0], (2, 3))
        self.same(self.paper(TWINS, 3, (0, 2))[0], (1, 2))
        # A way from a wished place back to it.
        back = (3, ((0, 1), (1, 0), (1, 2)), (0, 2))
        self.same(self.paper(back, 0, (0,))[0], (0,))
        self.same(self.paper(back, 1, (0,))[0], (1,))
        self.same(self.paper(back, 2, (0,)), None)

    def test_small_and_other_maps(self):
        chance = random.Random(215)
        for chart in list(all_maps(2)) + list(some_maps(30, 3, 6, 216)) + list(layered_maps(50, 4, 7, 217)):
            for threads in (1, 2, 3):
                every = standings_of(chart, threads)
                for standing in chance.sample(every, min(2, len(every))):
                    for k in (0, 1, 2, 4):
                        self.paper(chart, k, standing)

    def test_large_maps(self):
        for k in range(9):
            paper = endless(FULL60, k, (7,))
            self.assertEqual(paper is None, k > 3)
            self.assertEqual(paper is not None, endless_right(FULL60, k, (7,), paper))
        self.same(endless(SPINE, 1, (0,))[0], (0,))
        self.same(endless(RING60, 0, (0, 5, 9)), None)


class TestErrors(Case):
    def test_arguments(self):
        self.checks_arguments(enough)
        self.checks_arguments(widest)
        self.checks_arguments(endless, k=0)

    def test_sizes(self):
        self.checks_size(enough)
        self.checks_size(widest)
        self.checks_size(endless, k=8)

    def test_by_names(self):
        self.same(self.by_names(enough, chart=M5, standing=(0, 1)), 2)
        self.same(self.by_names(widest, chart=M5, standing=(0, 1)), (0, 2))
        self.same(self.by_names(endless, chart=SELF, k=0, standing=(0,)), ((0,), ((0, 0),)))
