import collections

from fewtraps.bounds import bound
from fewtraps.cuts import cuts
from fewtraps.errors import BadMap, BadNumber, BadPlace, BadWish
from fewtraps.kernel import unsafe_right
from fewtraps.never import rounds, safe, safe_lay, unsafe
from tests.cases import (CHAIN, CHAIN60, EMPTY, FULL60, M2, M3, NO_COUNTS, NO_MAPS, RING60, SELF, SPINE, Case, M,
                         all_maps, layered_maps, some_maps, spine_maps)
from tests.plain import fault_of_ways
from tests.reckoning import Game, Reckoning

FORK = (4, ((0, 1), (1, 2), (1, 3)), (2, 3))


def ladder(length, k):
    """Return a chain of so many places, with k + 1 wished places behind the last one."""
    roads = [(a, a + 1) for a in range(length - 1)] + [(length - 1, length + b) for b in range(k + 1)]
    return (length + k + 1, tuple(roads), tuple(range(length, length + k + 1)))


class TestExamples(Case):
    def test_the_fork(self):
        self.same((rounds(FORK, 1), rounds(FORK, 2)), ((2, 1, 0, 0), (0, 0, 0, 0)))
        self.same((safe(FORK, 1, 0), safe_lay(FORK, 2, 0), safe_lay(FORK, 2, 1), safe_lay(FORK, 1, 2)),
                  (False, (1,), (2, 3), ()))
        self.same((safe_lay(FORK, 1, 0), unsafe(FORK, 2, 0), [place for place, ways in unsafe(FORK, 1, 0)]),
                  (None, None, [1, 0]))

    def test_the_ring(self):
        self.same((rounds(M2, 1), rounds(M2, 2)), ((1, 1, 1, 1, 0, 0, 0), (0, 0, 0, 0, 0, 0, 0)))
        self.same([safe_lay(M2, 2, a) for a in (0, 1, 2, 3)], [(1, 2), (0, 4), (3, 5), (0, 6)])
        # Each place is safe, but there is no bound.
        self.same([bound(M2, 2, (a,)) for a in range(4)], [None] * 4)


class TestNever(Case):
    def right(self, chart, k):
        """Compare with the plain rule; return the rounds."""
        found = self.plain(rounds(chart, k))
        self.same(found, Reckoning(chart).rounds(k))
        for a in range(chart[0]):
            self.one_right(chart, k, a, found)
        self.same(rounds(chart, k), found)
        return found

    def one_right(self, chart, k, a, gone):
        self.same(safe(chart, k, a), gone[a] == 0)
        traps = self.plain(safe_lay(chart, k, a))
        pairs = self.plain(unsafe(chart, k, a))
        self.same(unsafe(chart, k, a), pairs)
        if gone[a] > 0:
            self.same(traps, None)
            self.pairs_right(chart, k, a, gone, pairs)
            return
        self.same(pairs, None)
        self.assertLessEqual(len(traps), k)
        self.same(cuts(chart, traps, (a,)), True)
        free = tuple(place for place in range(chart[0]) if gone[place] > 0 and place not in chart[2])
        self.same(traps, Reckoning(chart).pinch((a,), free))
        self.assertFalse(set(traps) & set(free))

    def pairs_right(self, chart, k, a, gone, pairs):
        earlier = [place for place in range(chart[0]) if 0 < gone[place] < gone[a] and place not in chart[2]]
        told = [place for place, _ in pairs]
        self.same(told, sorted(earlier, key=lambda place: (gone[place], place)) + [a])
        for index, (place, ways) in enumerate(pairs):
            self.same(len(ways), k + 1)
            self.same(fault_of_ways(chart, (place,), told[:index], ways), None)
        self.same(unsafe_right(chart, k, a, pairs), True)

    def test_examples(self):
        for chart in (FORK, M, M2, M3, SELF, CHAIN):
            for k in range(9):
                self.right(chart, k)

    def test_chains(self):
        for length in range(1, 9):
            for k in range(9):
                chart = ladder(length, k)
                gone = tuple(range(length, 0, -1)) if k > 0 else (1,) * length
                self.same(self.right(chart, k), gone + (0,) * (k + 1))
                if k < 8:
                    self.same(self.right(chart, k + 1), (0,) * (length + k + 1))
                told = list(range(length - 1, -1, -1)) if k > 0 else [0]
                self.same([place for place, _ in unsafe(chart, k, 0)], told)

    def test_a_chain_with_a_way_round(self):
        # From 0 to 1 and 2, from both to 3, from there to three wished places: with two traps 1 and 2 can be passed.
        chart = (7, ((0, 1), (0, 2), (1, 3), (2, 3), (3, 4), (3, 5), (3, 6)), (4, 5, 6))
        self.same(self.right(chart, 2), (3, 2, 2, 1, 0, 0, 0))
        self.same(self.right(chart, 1), (2, 2, 2, 1, 0, 0, 0))
        self.same([place for place, _ in unsafe(chart, 2, 0)], [3, 1, 2, 0])
        self.same([place for place, _ in unsafe(chart, 2, 2)], [3, 2])

    def test_wished_places_have_rounds(self):
        # From the wished place 0 to 1, from there back and to 2 and 3.
        chart = (4, ((0, 1), (1, 0), (1, 2), (1, 3)), (0, 2, 3))
        self.same(self.right(chart, 2), (2, 1, 0, 0))
        self.same(self.right(chart, 0), (1, 1, 0, 0))
        self.same(self.right(chart, 3), (0, 0, 0, 0))
        self.same(safe_lay(chart, 3, 0), (1,))
        # A wished place that has gone is not free.
        back = (5, ((0, 2), (1, 2), (2, 3), (2, 4)), (2, 3, 4))
        self.same(self.right(back, 1), (0, 0, 1, 0, 0))
        self.same((safe_lay(back, 1, 0), self.right(back, 0)), ((2,), (1, 1, 1, 0, 0)))
        self.same(self.right((3, ((0, 1), (1, 2), (2, 0)), (0, 1, 2)), 0), (1, 1, 1))
        self.same(self.right((3, ((0, 1), (1, 2), (2, 0)), (0, 1, 2)), 1), (0, 0, 0))

    def test_all_places_of_a_round_go_together(self):
        # 1 and 2 go first. Only then is 0 looked at with both of them free.
        chart = (7, ((0, 1), (0, 2), (1, 3), (1, 4), (1, 5), (2, 4), (2, 5), (2, 6)), (3, 4, 5, 6))
        self.same(self.right(chart, 2), (2, 1, 1, 0, 0, 0, 0))
        # 2 comes to 1, which goes in the same round as it does with one trap.
        self.same(self.right((5, ((1, 3), (1, 4), (2, 1), (2, 3)), (3, 4)), 1), (0, 1, 1, 0, 0))

    def test_no_places_and_no_wished_places(self):
        for k in range(9):
            self.same(rounds(EMPTY, k), ())
            self.same(rounds(RING60, k), (0,) * 60)
            self.same((safe(RING60, k, 7), safe_lay(RING60, k, 7), unsafe(RING60, k, 7)), (True, (), None))

    def test_small_maps(self):
        for places in range(4):
            for number, chart in enumerate(all_maps(places)):
                if number % 16 == 0 or places < 3:
                    for k in range(3):
                        self.right(chart, k)

    def test_other_maps(self):
        told = collections.Counter()
        charts = list(some_maps(60, 3, 8, 251)) + list(layered_maps(60, 4, 10, 252)) + list(spine_maps(40, 6, 10, 3))
        for chart in charts:
            for k in range(4):
                told.update(self.right(chart, k))
        self.assertLessEqual({0, 1, 2, 3}, set(told))

    def test_what_can_be_promised(self):
        """Compare with all ways to lay traps and all plays."""
        charts = list(some_maps(60, 2, 6, 253)) + list(layered_maps(60, 4, 7, 254)) + list(spine_maps(20, 6, 8, 255))
        for chart in charts:
            for k in range(3):
                kept = Game(chart, k, 1).never_missed()
                self.same([safe(chart, k, a) for a in range(chart[0])], [(a,) in kept for a in range(chart[0])])

    def test_a_bound_makes_a_place_safe(self):
        for chart in list(layered_maps(60, 5, 12, 256)) + list(spine_maps(60, 6, 12, 257)):
            for k in range(4):
                for a in range(chart[0]):
                    if bound(chart, k, (a,)) is not None:
                        self.same(safe(chart, k, a), True)

    def test_large_maps(self):
        self.same((rounds(CHAIN60, 0), rounds(CHAIN60, 1)), ((1,) * 59 + (0,), (0,) * 60))
        self.same([rounds(SPINE, k) for k in (0, 1, 2)], [(1,) * 30 + (0,) * 30, (1,) * 29 + (0,) * 31, (0,) * 60])
        self.same((rounds(FULL60, 3), rounds(FULL60, 4)), ((1,) * 60, (0,) * 60))
        self.same((safe_lay(FULL60, 4, 0), safe_lay(SPINE, 2, 0)), ((1, 2, 3, 4), (1, 30)))
        self.same([len(ways) for _, ways in unsafe(FULL60, 3, 0)], [4])
        long = ladder(58, 1)
        self.same(rounds(long, 1), tuple(range(58, 0, -1)) + (0, 0))
        self.same(unsafe_right(long, 1, 0, unsafe(long, 1, 0)), True)
        self.same(len(unsafe(long, 1, 0)), 58)


class TestErrors(Case):
    def test_maps(self):
        for chart in NO_MAPS:
            for call in (lambda: rounds(chart, 9), lambda: safe(chart, 9, 0), lambda: safe_lay(chart, 9, 0),
                         lambda: unsafe(chart, 9, 0)):
                with self.assertRaises((BadMap, BadWish)):
                    call()
        self.refused(BadWish, 0, rounds, (2, (), (2,)), None)
        for function in (safe, safe_lay, unsafe):
            self.refused(BadMap, 0, function, (2, ((0, 2),), 0), 9, -1)
            self.refused(BadWish, 0, function, (2, (), (2,)), None, None)

    def test_numbers_of_traps(self):
        for k in NO_COUNTS:
            self.refused(BadNumber, k, rounds, FORK, k)
            for function in (safe, safe_lay, unsafe):
                self.refused(BadNumber, k, function, FORK, k, 0)
                self.refused(BadNumber, k, function, EMPTY, k, 4)

    def test_places(self):
        for function in (safe, safe_lay, unsafe):
            for a in (-1, 4, True, False, None, "0", (0,), [], 0.0):
                self.refused(BadPlace, a, function, FORK, 1, a)
            self.refused(BadPlace, 0, function, EMPTY, 0, 0)

    def test_by_names(self):
        self.same(self.by_names(rounds, chart=FORK, k=1), (2, 1, 0, 0))
        self.same(self.by_names(safe, chart=FORK, k=1, a=2), True)
        self.same(self.by_names(safe_lay, chart=FORK, k=2, a=0), (1,))
        self.same(self.by_names(unsafe, chart=SELF, k=0, a=0), ((0, ((0, 0),)),))
