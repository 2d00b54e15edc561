import random

from fewtraps.cuts import cuts
from fewtraps.errors import BadFree, BadLot, BadMap, BadWish
from fewtraps.pinches import pinch
from fewtraps.walls import far, near, wall
from tests.cases import (CHAIN, CHAIN60, EMPTY, FULL60, NO_LOTS, RING60, SELF, Case, M, all_maps, lots_of, some_lot,
                         some_maps)
from tests.plain import extreme_walls, regions_of


def unwished(chart):
    return [place for place in range(chart[0]) if place not in chart[2]]


class TestListings(Case):
    def same_as_listing(self, chart, lot, frees):
        regions = regions_of(chart, lot)
        nearest, farthest = extreme_walls(regions, ())
        self.assertEqual(near(chart, lot), nearest, (chart, lot))
        self.assertEqual(far(chart, lot), farthest, (chart, lot))
        self.assertEqual(wall(chart, lot), len(nearest), (chart, lot))
        for free in frees:
            wanted = extreme_walls(regions, free)[0]
            self.assertEqual(pinch(chart, lot, free), wanted, (chart, lot, free))
            self.assertTrue(cuts(chart, wanted, lot), (chart, lot, free))

    def test_all_small_maps(self):
        for places in range(4):
            for chart in all_maps(places):
                for lot in lots_of(range(places)):
                    self.same_as_listing(chart, lot, lots_of(unwished(chart)))

    def test_some_larger_maps(self):
        chance = random.Random(41)
        for chart in some_maps(400, 4, 9, 42):
            every = unwished(chart)
            for _ in range(4):
                frees = ((), tuple(every), some_lot(chance, every), some_lot(chance, every))
                self.same_as_listing(chart, some_lot(chance, range(chart[0])), frees)


class TestPinch(Case):
    def test_examples(self):
        self.same(pinch(M, (0,), (1,)), (2, 3))
        self.same(pinch(M, (0,), (1, 2)), (3, 4, 5))

    def test_free_places(self):
        self.same(pinch(M, (0,), ()), (1,))
        self.same(pinch(M, (0,), (0,)), (1,))
        self.same(pinch(M, (0,), (0, 1, 2, 3)), (4, 5, 6, 7))
        self.same(pinch(CHAIN, (0,), (1,)), (2,))
        self.same(pinch(CHAIN, (0,), (2,)), (1,))
        self.same(pinch(CHAIN, (0,), (0, 1, 2)), (3,))

    def test_the_least_region_of_those_with_the_fewest(self):
        # Two walls of one place each: 1 is nearer than 4.
        chart = (6, ((0, 1), (1, 2), (1, 3), (2, 4), (3, 4), (4, 5)), (5,))
        self.same(pinch(chart, (0,), ()), (1,))
        self.same(pinch(chart, (0,), (1,)), (4,))
        self.same(pinch(chart, (0,), (1, 4)), (5,))
        self.same(pinch(chart, (0, 2), ()), (4,))
        self.same(pinch(chart, (1,), (4,)), (5,))

    def test_lots_with_wished_places(self):
        chart = (4, ((0, 1), (1, 0), (1, 2), (2, 3)), (0, 3))
        self.same(pinch(chart, (0,), ()), (1,))
        self.same(pinch(chart, (0,), (1,)), (0, 2))
        self.same(pinch(chart, (0, 1), (2,)), (0, 3))
        self.same(pinch(SELF, (0,), ()), (0,))
        self.same(pinch(chart, (3,), (1, 2)), ())

    def test_nothing_to_wall_off(self):
        for chart in (EMPTY, M, FULL60):
            self.same(pinch(chart, (), ()), ())
        self.same(pinch(M, (), (0, 1)), ())
        self.same(pinch((2, ((0, 1), (1, 0)), ()), (0,), (1,)), ())

    def test_maps_of_60_places(self):
        self.same(pinch(CHAIN60, (0,), tuple(range(30))), (30,))
        self.same(pinch(CHAIN60, (0, 40), tuple(range(30))), (41,))
        self.same(pinch(RING60, (0,), tuple(range(60))), ())
        self.same(pinch((60, RING60[1], (5,)), (5,), (6, 7, 58)), (8,))
        self.same(pinch(FULL60, (0,), ()), (1, 2, 3, 4))
        self.same(pinch(FULL60, (0,), tuple(range(40))), (40, 41, 42, 43))
        self.same(pinch(FULL60, tuple(range(0, 50, 10)), ()), (41, 42, 43, 44))
        self.same(pinch(FULL60, tuple(range(60)), tuple(range(50))), tuple(range(50, 60)))

    def test_many_ways(self):
        roads = tuple((a, b) for a in range(10) for b in range(10, 30))
        self.same(pinch((30, roads, tuple(range(10, 30))), tuple(range(10)), ()), tuple(range(10, 30)))
        star = (60, tuple((0, b) for b in range(1, 60)), tuple(range(1, 60)))
        self.same((pinch(star, (0,), ()), wall(star, (0,)), far(star, (0,))), (star[2], 59, star[2]))
        whole = (60, tuple((0, b) for b in range(60)), tuple(range(60)))
        self.same((pinch(whole, (0,), ()), wall(whole, (0,))), (whole[2], 60))
        # All 58 ways go through one free place.
        bottle = (60, ((0, 1),) + tuple((1, b) for b in range(2, 60)), tuple(range(2, 60)))
        self.same((pinch(bottle, (0,), ()), pinch(bottle, (0,), (1,))), ((1,), bottle[2]))

    def test_bad_lots_and_free_places(self):
        chart = (3, (), (1,))
        for lot in NO_LOTS:
            self.refused(BadLot, -1, pinch, chart, lot, ())
            self.refused(BadFree, -1, pinch, chart, (0,), lot)
        self.refused(BadFree, -1, pinch, chart, (0,), (1,))
        self.refused(BadFree, -1, pinch, chart, (0,), (0, 1, 2))
        self.same(pinch(chart, (0, 1, 2), (0, 2)), ())

    def test_the_order_of_the_errors(self):
        self.refused(BadMap, -2, pinch, (61, (), ()), None, None)
        self.refused(BadWish, 0, pinch, (1, (), (1,)), None, None)
        self.refused(BadLot, -1, pinch, M, (1, 0), (4,))
        self.refused(BadFree, -1, pinch, M, (0, 1), (4,))

    def test_by_names(self):
        self.same(self.by_names(pinch, chart=M, lot=(0,), free=(1, 2)), (3, 4, 5))


class TestWalls(Case):
    def test_examples(self):
        self.same((wall(M, (0,)), near(M, (0,)), far(M, (0,))), (1, (1,), (1,)))
        self.same((wall(M, (1,)), near(M, (1,))), (2, (2, 3)))
        self.same((near(CHAIN, (0,)), far(CHAIN, (0,))), ((1,), (3,)))
        self.same(near(SELF, (0,)), (0,))

    def test_near_and_far(self):
        chart = (6, ((0, 1), (1, 2), (1, 3), (2, 4), (3, 4), (4, 5)), (5,))
        self.same((near(chart, (0,)), far(chart, (0,)), wall(chart, (0,))), ((1,), (5,), 1))
        self.same((near(chart, (4,)), far(chart, (4,))), ((5,), (5,)))
        two = (7, ((0, 1), (0, 2), (1, 3), (2, 4), (3, 5), (3, 6), (4, 5), (4, 6)), (5, 6))
        self.same((near(two, (0,)), far(two, (0,)), wall(two, (0,))), ((1, 2), (5, 6), 2))
        self.same((near(M, (0, 2)), far(M, (0, 2)), wall(M, (0, 2))), ((1, 4, 5), (3, 4, 5), 3))
        self.same(far(SELF, (0,)), (0,))

    def test_no_wished_place_is_come_to(self):
        for lot in ((), (4,), (4, 5, 6, 7)):
            self.same((wall(M, lot), near(M, lot), far(M, lot)), (0, (), ()))
        dead = (3, ((0, 1), (1, 0)), (2,))
        self.same((wall(dead, (0, 1)), near(dead, (0,)), far(dead, (0,))), (0, (), ()))
        self.same((wall(EMPTY, ()), near(EMPTY, ()), far(EMPTY, ())), (0, (), ()))

    def test_dead_ends_do_not_count(self):
        chart = (4, ((0, 1), (0, 2), (2, 3)), (3,))
        self.same((near(chart, (0,)), far(chart, (0,)), wall(chart, (0,))), ((2,), (3,), 1))

    def test_maps_of_60_places(self):
        self.same((near(CHAIN60, (0,)), far(CHAIN60, (0,)), wall(CHAIN60, (0,))), ((1,), (59,), 1))
        self.same((near(RING60, (0,)), far(RING60, (0,)), wall(RING60, (0,))), ((), (), 0))
        ring = (60, RING60[1], (0,))
        self.same((near(ring, (0,)), far(ring, (0,)), wall(ring, (0,))), ((1,), (0,), 1))
        self.same((near(FULL60, (0,)), far(FULL60, (0,))), ((1, 2, 3, 4), (50, 51, 52, 53)))
        self.same(wall(FULL60, tuple(range(60))), 10)

    def test_bad_lots(self):
        for function in (wall, near, far):
            for lot in NO_LOTS:
                self.refused(BadLot, -1, function, (3, (), ()), lot)
            self.refused(BadMap, -1, function, (), (1, 0))
            self.refused(BadWish, 1, function, (2, (), (1, 0)), None)

    def test_by_names(self):
        self.same(self.by_names(wall, chart=M, lot=(1,)), 2)
        self.same(self.by_names(near, chart=M, lot=(1,)), (2, 3))
        self.same(self.by_names(far, chart=CHAIN, lot=(0,)), (3,))
