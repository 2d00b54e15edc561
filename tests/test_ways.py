import random

from fewtraps.errors import BadFree, BadLot, BadMap, BadWish
from fewtraps.pinches import pinch
from fewtraps.ways import share
from tests.cases import (CHAIN, CHAIN60, EMPTY, FULL60, NO_LOTS, RING60, SELF, Case, M, all_maps, lots_of, some_lot,
                         some_maps)
from tests.plain import fault_of_ways


class TestShare(Case):
    def right(self, chart, lot, free, count=None):
        """Expect ways that share nothing but free places, as many as the pinch has places."""
        ways = share(chart, lot, free)
        self.assertIs(type(ways), tuple)
        self.assertIsNone(fault_of_ways(chart, lot, free, ways), (chart, lot, free, ways))
        self.assertEqual(len(ways), len(pinch(chart, lot, free)), (chart, lot, free, ways))
        self.assertEqual(share(chart, lot, free), ways)
        if count is not None:
            self.assertEqual(len(ways), count)
        return ways

    def test_examples(self):
        self.right(M, (0,), (1,), 2)

    def test_a_way_from_a_wished_place_back_to_it(self):
        self.same(self.right(SELF, (0,), ()), ((0, 0),))
        self.same(self.right((2, ((0, 1), (1, 0)), (0,)), (0,), ()), ((0, 1, 0),))
        self.same(self.right((2, ((0, 1), (1, 0)), (0,)), (0,), (1,)), ((0, 1, 0),))

    def test_ways_through_free_places_that_several_use(self):
        self.right(M, (0,), (1, 2, 3), 4)
        self.right(M, (0,), (1, 2), 3)
        bottle = (60, ((0, 1),) + tuple((1, b) for b in range(2, 60)), tuple(range(2, 60)))
        self.right(bottle, (0,), (1,), 58)
        self.right(bottle, (0,), (), 1)

    def test_ways_through_the_lot(self):
        chart = (4, ((0, 1), (1, 2), (1, 3)), (2, 3))
        self.right(chart, (0, 1), (), 2)
        self.right(chart, (0, 1), (1,), 2)
        self.right(chart, (0,), (), 1)

    def test_a_way_that_is_pushed_aside(self):
        # A way by 1 and 4 alone would leave no second one.
        chart = (7, ((0, 1), (0, 2), (1, 3), (1, 4), (2, 4), (3, 5), (4, 5), (4, 6)), (5, 6))
        self.right(chart, (0,), (), 2)
        self.right(chart, (0,), (4,), 2)

    def test_no_ways(self):
        for chart in (EMPTY, M, FULL60):
            self.same(share(chart, (), ()), ())
        self.same(share(M, (4, 5), (0, 1)), ())
        self.same(share(RING60, tuple(range(60)), ()), ())

    def test_all_small_maps(self):
        for places in range(4):
            for chart in all_maps(places):
                for lot in lots_of(range(places)):
                    for free in lots_of(place for place in range(places) if place not in chart[2]):
                        self.right(chart, lot, free)

    def test_some_larger_maps(self):
        chance = random.Random(51)
        for chart in some_maps(600, 4, 20, 52):
            every = [place for place in range(chart[0]) if place not in chart[2]]
            lot = some_lot(chance, range(chart[0]))
            for free in ((), tuple(every), some_lot(chance, every), some_lot(chance, every)):
                self.right(chart, lot, free)

    def test_maps_of_60_places(self):
        self.same(self.right(CHAIN60, (0,), ()), (tuple(range(60)),))
        self.same(self.right(CHAIN60, (0, 30), (7, 40)), (tuple(range(30, 60)),))
        self.right((60, RING60[1], (0, 30)), (0, 30), (), 2)
        self.right(FULL60, (0,), (), 4)
        self.right(FULL60, (0, 20, 40), tuple(range(41, 50)), 4)
        self.right(FULL60, tuple(range(60)), tuple(range(50)), 10)
        whole = (60, tuple((0, b) for b in range(60)), tuple(range(60)))
        self.right(whole, (0,), (), 60)

    def test_some_maps_of_60_places(self):
        chance = random.Random(53)
        pairs = [(a, b) for a in range(60) for b in range(60)]
        for _ in range(40):
            roads = tuple(sorted(chance.sample(pairs, 240)))
            wished = some_lot(chance, range(60))
            every = [place for place in range(60) if place not in wished]
            self.right((60, roads, wished), some_lot(chance, range(60)), some_lot(chance, every))
            self.right((60, roads, wished), (chance.randrange(60),), some_lot(chance, every))

    def test_bad_lots_and_free_places(self):
        chart = (3, (), (1,))
        for lot in NO_LOTS:
            self.refused(BadLot, -1, share, chart, lot, ())
            self.refused(BadFree, -1, share, chart, (0,), lot)
        self.refused(BadFree, -1, share, chart, (0,), (1,))
        self.refused(BadFree, -1, share, chart, (0,), (0, 1))

    def test_the_order_of_the_errors(self):
        self.refused(BadMap, -1, share, None, None, None)
        self.refused(BadWish, 0, share, (1, (), (1,)), None, None)
        self.refused(BadLot, -1, share, M, [0], (4,))
        self.refused(BadFree, -1, share, M, (0,), [1])

    def test_by_names(self):
        self.same(self.by_names(share, chart=CHAIN, lot=(0,), free=(1,)), ((0, 1, 2, 3),))
