import collections
import random

from fewtraps.bounds import bound, curve, lay
from tests.cases import (CHAIN, CHAIN60, FULL60, M2, M3, RING60, SELF, SPINE, Case, M, all_maps, layered_maps,
                         some_maps, spine_maps, standings_of)
from tests.reckoning import Game, Reckoning

M5 = (5, ((0, 0), (0, 2), (1, 1), (1, 2), (2, 3), (2, 4)), (3, 4))

# From 0 to 1 and 2, from 1 to 3 and 4, from 2 to 4 and 5.
FAN = ((0, 1), (0, 2), (1, 3), (1, 4), (2, 4), (2, 5))


def fan(*more):
    """Return the map of the fan with more roads."""
    roads = tuple(sorted(FAN + more))
    return (1 + max(max(road) for road in roads), roads, (3, 4, 5))


def both(chart, k, standing):
    return (bound(chart, k, standing), lay(chart, k, standing))


class TestExamples(Case):
    def test_the_interface(self):
        self.same((bound(M, 2, (0,)), lay(M, 2, (0,)), bound(M, 1, (0,)), lay(M, 4, (0,))),
                  (1, (2, 3), None, (4, 5, 6, 7)))
        self.same(curve(M, (0,)), (None, None, 1, 1, 0, 0, 0, 0, 0))
        self.same((bound(M, 2, (0, 1)), bound(M, 4, (0, 1))), (None, 0))
        self.same([both(M3, 2, (place,)) for place in range(4)],
                  [(2, (1, 2)), (0, (0, 4)), (1, (3, 5)), (0, (0, 6))])

    def test_the_examples_of_bounds(self):
        self.same([both(M, 2, (place,)) for place in range(5)],
                  [(1, (2, 3)), (1, (2, 3)), (0, (4, 5)), (0, (6, 7)), (0, ())])
        self.same([bound(M5, 1, standing) for standing in ((0,), (0, 1), (0, 2), (2, 2), (3, 4))],
                  [None, None, None, None, 0])
        self.same(both(M5, 2, (0, 1)), (0, (3, 4)))
        self.same((bound(M2, 2, (0,)), bound(M3, 2, (0,))), (None, 2))


class TestBounds(Case):
    def test_a_fan(self):
        self.same([both(fan(), 2, (place,)) for place in range(4)],
                  [(1, (1, 2)), (0, (3, 4)), (0, (4, 5)), (0, ())])
        self.same(both(fan(), 3, (0,)), (0, (3, 4, 5)))
        self.same(curve(fan(), (0,)), (None, None, 1, 0, 0, 0, 0, 0, 0))

    def test_rings_of_one_place(self):
        self.same(both(fan((0, 0)), 2, (0,)), (1, (1, 2)))
        self.same(both(fan((1, 1)), 2, (0,)), (1, (1, 2)))
        self.same(both(fan((0, 0), (1, 1), (2, 2)), 2, (1,)), (0, (3, 4)))
        self.same(both((2, ((0, 0), (0, 1)), (1,)), 1, (0,)), (0, (1,)))

    def test_roads_back_to_where_the_threads_began(self):
        # A trap in the ring could be hit for ever.
        self.same(both(fan((1, 0)), 2, (0,)), (None, None))
        self.same(both(fan((1, 0)), 2, (2,)), (0, (4, 5)))
        self.same(both(fan((1, 0)), 3, (1,)), (0, (3, 4, 5)))
        # The ring through a wished place is none.
        self.same([both(fan((4, 0)), 2, (place,)) for place in (0, 3, 4)], [(1, (1, 2)), (0, ()), (1, (1, 2))])

    def test_places_one_behind_the_other(self):
        for k in range(1, 9):
            for place in range(3):
                self.same(both(CHAIN, k, (place,)), (0, (3,)))
        self.same(both(CHAIN, 0, (0,)), (None, None))
        self.same(both(CHAIN, 0, (3,)), (0, ()))
        self.same(both(CHAIN60, 1, (0,)), (0, (59,)))

    def test_no_wished_place_is_come_to(self):
        for k in range(9):
            self.same(both(RING60, k, (7,)), (0, ()))
            self.same(both(RING60, k, (7, 8, 9)), (0, ()))
            self.same(both(M, k, (4, 7)), (0, ()))
            self.same(both((1, (), ()), k, (0, 0, 0)), (0, ()))
        self.same(curve((3, ((0, 1), (1, 0)), (2,)), (0, 1, 0)), (0,) * 9)

    def test_no_traps(self):
        self.same(both(SELF, 0, (0,)), (None, None))
        self.same(both(SELF, 1, (0, 0)), (0, (0,)))
        self.same(both(M, 0, (0, 4)), (None, None))
        self.same(both(M, 0, (4, 4)), (0, ()))

    def test_all_places_wished(self):
        ring = (3, ((0, 1), (1, 2), (2, 0)), (0, 1, 2))
        self.same(both(ring, 1, (0,)), (0, (1,)))
        self.same(both(ring, 2, (0, 2)), (0, (0, 1)))
        self.same(both(ring, 1, (0, 2)), (None, None))
        self.same(both(ring, 2, (0, 0, 1)), (0, (1, 2)))

    def test_a_place_to_which_two_threads_come(self):
        chart = (5, ((0, 2), (1, 2), (2, 3), (2, 4)), (3, 4))
        self.same(both(chart, 2, (0, 1)), (0, (3, 4)))
        self.same(both(chart, 1, (0, 1)), (None, None))
        wide = fan((6, 0), (6, 6), (7, 0))
        self.same(both(wide, 2, (6, 7)), (None, None))
        self.same(both(wide, 3, (6, 7)), (0, (3, 4, 5)))
        self.same([both(wide, 2, standing) for standing in ((6, 3), (3, 7), (5, 0), (3, 1))],
                  [(1, (1, 2)), (1, (1, 2)), (1, (1, 2)), (0, (3, 4))])

    def test_the_order_of_the_threads_does_not_count(self):
        for chart in layered_maps(30, 5, 8, 201):
            for one, other in standings_of(chart, 2)[::5]:
                for k in (2, 3):
                    self.same(both(chart, k, (one, other)), both(chart, k, (other, one)))

    def test_long_legs(self):
        # Of the ends of a place of the spine, all traps but one can be laid at the next ones.
        for place in (0, 1, 13, 27, 29):
            wanted = tuple(max(0, (30 - place - 2) // (k - 1)) for k in range(2, 9))
            less = (None, None) if place < 29 else (None, 0)
            self.same(curve(SPINE, (place,)), less + wanted)
        self.same((lay(SPINE, 2, (0,)), lay(SPINE, 2, (28,))), ((1, 30), (58, 59)))

    def test_large_maps(self):
        self.same(curve(FULL60, (0,)), (None,) * 4 + (0,) * 5)
        self.same((lay(FULL60, 4, (0,)), lay(FULL60, 8, (49,))), ((50, 51, 52, 53), (50, 51, 52, 53)))
        rings = self.rings(19, 3, 1)
        self.same(curve(rings, (0, 54)), (None,) + (0,) * 8)
        self.same(lay(rings, 3, (1, 2)), (57,))
        three = self.rings(6, 9, 1)
        self.same((len(three[1]), curve(three, (0, 9, 20))), (240, (None,) + (0,) * 8))

    def rings(self, count, size, wished):
        """Return a map of rings, with roads from each one to the next one, and with at most 240 roads."""
        roads = {(a, a // size * size + (a + 1) % size) for a in range(count * size)}
        more = [(a, b) for a in range(count * size) for b in range((a // size + 1) * size, (a // size + 2) * size)
                if b < count * size + wished]
        chance = random.Random(202)
        roads |= set(chance.sample(more, min(len(more), 239 - len(roads)))) | {(count * size - 1, count * size)}
        return (count * size + wished, tuple(sorted(roads)), tuple(range(count * size, count * size + wished)))


class TestReckoning(Case):
    def compare(self, chart, standings, told=None):
        reckoning = Reckoning(chart)
        for index, standing in enumerate(standings):
            for k in range(5):
                wanted = reckoning.plan(k, standing)
                self.assertEqual(self.plain(both(chart, k, standing)), wanted, (chart, k, standing))
                if index % 4 == 0:
                    self.assertEqual(reckoning.least_lots(k, standing), wanted[0], (chart, k, standing))
                if told is not None:
                    told[wanted[0]] += 1

    def test_small_maps(self):
        for places in range(4):
            for number, chart in enumerate(all_maps(places)):
                if number % 16 == 0 or places < 3:
                    self.compare(chart, standings_of(chart, 1) + standings_of(chart, 2)[::4])

    def test_some_maps(self):
        chance = random.Random(203)
        for chart in some_maps(40, 2, 6, 204):
            for threads in (1, 2, 3):
                every = standings_of(chart, threads)
                if chart[0] < 6 or threads < 3:
                    self.compare(chart, chance.sample(every, min(4, len(every))))

    def test_the_maps_of_the_document(self):
        told = collections.Counter()
        for chart in (M, M2, M3, M5, fan(), fan((4, 0))):
            for threads in (1, 2, 3):
                if chart[0] ** threads <= 400:
                    self.compare(chart, standings_of(chart, threads)[::threads ** 2], told)
        self.assertEqual(set(told), {None, 0, 1, 2})

    def test_maps_in_layers(self):
        for threads, most, count in ((1, 11, 80), (2, 10, 30), (3, 7, 60)):
            chance = random.Random(205)
            told = collections.Counter()
            for chart in layered_maps(count, 5, most, 206 + threads):
                every = standings_of(chart, threads)
                self.compare(chart, chance.sample(every, min(10, len(every))), told)
            self.assertLessEqual({None, 0, 1}, set(told))

    def test_maps_like_spines(self):
        for threads, most, count in ((1, 12, 80), (2, 10, 30), (3, 7, 30)):
            chance = random.Random(207)
            told = collections.Counter()
            for chart in spine_maps(count, 6, most, 208 + threads):
                every = standings_of(chart, threads)
                self.compare(chart, chance.sample(every, min(10, len(every))), told)
            self.assertLessEqual({None, 0, 1, 2}, set(told))

    def test_what_can_be_promised(self):
        """Compare with all ways to lay traps and all plays."""
        told = collections.Counter()
        for threads, most, count in ((1, 8, 80), (2, 7, 6)):
            for chart in list(layered_maps(count, 6, most, 207)) + list(spine_maps(count, 6, most, 208)):
                for k in range(4):
                    for standing, wanted in Game(chart, k, threads).bounds().items():
                        self.assertEqual(bound(chart, k, standing), wanted, (chart, k, standing))
                        told[wanted] += 1
        self.assertLessEqual({None, 0, 1, 2}, set(told))

    def test_a_later_standing_has_no_greater_bound(self):
        for chart in layered_maps(40, 6, 12, 208):
            reckoning = Reckoning(chart)
            for k in (2, 3):
                for standing in standings_of(chart, 1):
                    number = bound(chart, k, standing)
                    for later in reckoning.later_rows(standing) if number is not None else ():
                        self.assertLessEqual(bound(chart, k, later), number)

    def test_a_standing_has_the_bound_of_its_row(self):
        for chart in some_maps(40, 4, 7, 209):
            reckoning = Reckoning(chart)
            for standing in standings_of(chart, 2)[::3]:
                self.same(both(chart, 2, standing), both(chart, 2, reckoning.row(standing)))


class TestCurve(Case):
    def test_what_bound_returns(self):
        for chart in layered_maps(60, 3, 12, 210):
            for threads in (1, 2) if chart[0] < 10 else (1,):
                for standing in standings_of(chart, threads)[::7]:
                    found = curve(chart, standing)
                    self.same(found, tuple(bound(chart, k, standing) for k in range(9)))
                    self.assertEqual(len(self.plain(found)), 9)


class TestErrors(Case):
    def test_arguments(self):
        self.checks_arguments(bound, k=2)
        self.checks_arguments(lay, k=2)
        self.checks_arguments(curve)

    def test_sizes(self):
        self.checks_size(bound, k=2)
        self.checks_size(lay, k=0)
        self.checks_size(curve)

    def test_by_names(self):
        self.same(self.by_names(bound, chart=M, k=2, standing=(0,)), 1)
        self.same(self.by_names(lay, chart=M, k=2, standing=(1,)), (2, 3))
        self.same(self.by_names(curve, chart=M, standing=(0,)), (None, None, 1, 1, 0, 0, 0, 0, 0))
