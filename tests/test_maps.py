from fewtraps.errors import BadLot, BadMap, BadWish
from fewtraps.maps import is_map, made_map, next_of
from tests.cases import (CHAIN60, EMPTY, FULL60, NO_LOTS, NO_MAPS, RING60, SELF, Case, M, all_maps, lots_of)
from tests.plain import next_to

ROADS = tuple((a, b) for a in range(16) for b in range(16))


def nested(depth):
    thing = ()
    for _ in range(depth):
        thing = (thing, 1, "a")
    return thing


class TestMadeMap(Case):
    def bad(self, error, what, thing):
        self.refused(error, what, made_map, thing)
        self.same(is_map(thing), False)

    def good(self, thing):
        self.same(made_map(thing), thing)
        self.same(is_map(thing), True)

    def test_examples(self):
        self.good(M)
        self.same(is_map((1, ((0, 0), (0, 0)), ())), False)
        self.bad(BadMap, 1, (2, ((0, 1), (0, 0)), ()))
        self.bad(BadMap, 0, (2, ((0, 2),), 5))
        self.bad(BadWish, 1, (2, ((0, 1),), (1, 1)))
        self.bad(BadMap, -2, (True, (), ()))

    def test_maps(self):
        for chart in (EMPTY, SELF, CHAIN60, RING60, FULL60, (1, (), ()), (60, (), tuple(range(60)))):
            self.good(chart)

    def test_no_tuple_of_three(self):
        for thing in (None, True, 3, "abc", [0, (), ()], {}, (), (0,), (0, ()), (0, (), (), ()), ((0, (), ()),)):
            self.bad(BadMap, -1, thing)

    def test_places(self):
        for places in (-1, 61, 1000, True, False, None, "3", "", (), (3,), [3], 3.0):
            self.bad(BadMap, -2, (places, (), ()))
        self.good((0, (), ()))
        self.good((60, (), ()))

    def test_places_ahead_of_roads(self):
        self.bad(BadMap, -2, (61, None, None))

    def test_roads_are_a_tuple_of_at_most_240(self):
        for roads in (None, True, 0, "", "ab", [], [(0, 0)], {}):
            self.bad(BadMap, -3, (1, roads, ()))
        self.good((16, ROADS[:240], ()))
        self.bad(BadMap, -3, (16, ROADS[:241], ()))
        self.bad(BadMap, -3, (16, (None,) * 241, ()))

    def test_the_first_bad_road(self):
        for road in ([0, 1], (), (0,), (0, 1, 1), (0, 3), (3, 0), (-1, 0), (0, -1), (True, 2), (False, 2), (1, True),
                     (2, False), None, 1, True, "01", ("0", "1"), (1, None), ((0, 1), 1), (0, (1,))):
            self.bad(BadMap, 0, (3, (road,), ()))
            self.bad(BadMap, 1, (3, ((0, 0), road), ()))
            self.bad(BadMap, 1, (3, ((0, 0), road, (0, 0), None), ()))
            self.bad(BadMap, 2, (3, ((0, 0), (0, 1), road), ()))

    def test_roads_ascend(self):
        self.bad(BadMap, 1, (3, ((0, 1), (0, 1)), ()))
        self.bad(BadMap, 1, (3, ((1, 0), (0, 2)), ()))
        self.bad(BadMap, 2, (3, ((0, 1), (1, 2), (1, 1)), ()))
        self.bad(BadMap, 2, (3, ((0, 1), (2, 2), (2, 2), (0, 0)), ()))
        self.good((3, ((0, 2), (1, 0), (1, 1)), ()))

    def test_roads_of_no_places(self):
        self.bad(BadMap, 0, (0, ((0, 0),), ()))

    def test_roads_ahead_of_wished(self):
        self.bad(BadMap, -3, (1, [], None))
        self.bad(BadMap, 1, (1, ((0, 0), (0, 0)), (5,)))

    def test_wished_are_a_tuple(self):
        for wished in (None, True, 0, "", [], [0], {}):
            self.bad(BadWish, -1, (3, (), wished))

    def test_the_first_bad_wish(self):
        for place in (3, -1, 60, True, False, None, "1", (1,), [1], ()):
            self.bad(BadWish, 0, (3, (), (place,)))
            self.bad(BadWish, 1, (3, (), (0, place)))
            self.bad(BadWish, 1, (3, (), (0, place, 0, None)))
        self.bad(BadWish, 0, (0, (), (0,)))

    def test_wished_ascend(self):
        self.bad(BadWish, 1, (3, (), (1, 1)))
        self.bad(BadWish, 1, (3, (), (1, 0)))
        self.bad(BadWish, 2, (3, (), (0, 2, 1)))
        self.good((3, (), (0, 1, 2)))
        self.good((3, (), (0, 2)))

    def test_is_map_of_anything(self):
        for thing in NO_MAPS:
            self.same(is_map(thing), False)
        for depth in range(21):
            self.same(is_map(nested(depth)), False)
            self.same(is_map((nested(depth), (), ())), False)
            self.same(is_map((2, nested(depth), ())), depth == 0)
            self.same(is_map((2, (nested(depth),), ())), False)
            self.same(is_map((2, (), (nested(depth),))), False)

    def test_by_names(self):
        self.same(self.by_names(made_map, thing=M), M)
        self.same(self.by_names(is_map, thing=M), True)


class TestNextOf(Case):
    def test_examples(self):
        self.same(next_of(M, (0,)), (1,))
        self.same(next_of(M, (0, 1)), (2, 3))
        self.same(next_of(M, (2, 4)), (4, 5))
        self.same(next_of(SELF, (0,)), (0,))
        self.refused(BadLot, -1, next_of, M, (1, 0))

    def test_roads_from_a_place_to_itself(self):
        self.same(next_of((2, ((0, 0), (1, 1)), (1,)), (0,)), ())
        self.same(next_of((2, ((0, 0), (1, 1)), (1,)), (0, 1)), (1,))

    def test_the_empty_lot(self):
        for chart in (EMPTY, M, FULL60):
            self.same(next_of(chart, ()), ())

    def test_all_small_maps(self):
        for places in range(4):
            for chart in all_maps(places):
                for lot in lots_of(range(places)):
                    self.assertEqual(next_of(chart, lot), next_to(chart, lot), (chart, lot))

    def test_large_maps(self):
        self.same(next_of(CHAIN60, (0, 1, 58)), (2, 59))
        self.same(next_of(RING60, (0, 59)), (1,))
        self.same(next_of(FULL60, tuple(range(60))), tuple(range(50, 60)))

    def test_bad_lots(self):
        for lot in NO_LOTS:
            self.refused(BadLot, -1, next_of, (3, (), ()), lot)
        self.refused(BadLot, -1, next_of, EMPTY, (0,))

    def test_the_map_ahead_of_the_lot(self):
        self.refused(BadMap, -1, next_of, None, None)
        self.refused(BadWish, 0, next_of, (1, (), (1,)), [])

    def test_by_names(self):
        self.same(self.by_names(next_of, chart=M, lot=(0, 1)), (2, 3))
