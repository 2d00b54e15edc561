from fewtraps.errors import BadMap, BadPlace, BadWish
from fewtraps.reach import comes, ends
from tests.cases import CHAIN60, EMPTY, FULL60, M2, M3, RING60, SELF, Case, M, all_maps, some_maps
from tests.plain import walks_from


class TestReach(Case):
    def same_as_listing(self, chart):
        for a in range(chart[0]):
            lasts = {walk[-1] for walk in walks_from(chart, a)}
            unwished = tuple(sorted(place for place in lasts if place not in chart[2]))
            wished = tuple(sorted(place for place in lasts if place in chart[2]))
            self.assertEqual((comes(chart, a), ends(chart, a)), (unwished, wished), (chart, a))

    def test_examples(self):
        self.same((comes(M, 0), ends(M, 0)), ((0, 1, 2, 3), (4, 5, 6, 7)))
        self.same((comes(M, 1), ends(M, 2)), ((2, 3), (4, 5)))
        self.same((comes(M, 4), ends(M, 4)), ((), ()))
        self.same((ends(M3, 0), ends(M3, 1)), ((0, 4, 5, 6), (0, 4)))

    def test_inner_places_are_unwished(self):
        through = (3, ((0, 1), (1, 2)), (1,))
        self.same((comes(through, 0), ends(through, 0)), ((), (1,)))
        self.same((comes(through, 1), ends(through, 1)), ((2,), ()))
        self.same(comes((3, ((0, 1), (1, 2)), ()), 0), (1, 2))
        self.same(ends((3, ((0, 1), (1, 2)), (1, 2)), 0), (1,))

    def test_the_place_itself(self):
        self.same(comes((1, ((0, 0),), ()), 0), (0,))
        self.same(comes((1, (), ()), 0), ())
        self.same((comes(SELF, 0), ends(SELF, 0)), ((), (0,)))
        self.same(comes((2, ((0, 1), (1, 0)), ()), 0), (0, 1))
        self.same(ends((2, ((0, 1), (1, 0)), (0,)), 0), (0,))
        # 0 comes back to itself only through the wished place 1.
        self.same((comes((2, ((0, 1), (1, 0)), (1,)), 0), comes((2, ((0, 1), (1, 0)), (1,)), 1)), ((), (0,)))

    def test_all_small_maps(self):
        for places in range(4):
            for chart in all_maps(places):
                self.same_as_listing(chart)

    def test_some_larger_maps(self):
        for chart in some_maps(60, 4, 6, 21):
            self.same_as_listing(chart)
        self.same_as_listing(M2)

    def test_maps_of_60_places(self):
        self.same((comes(CHAIN60, 0), ends(CHAIN60, 0)), (tuple(range(1, 59)), (59,)))
        self.same((comes(CHAIN60, 58), ends(CHAIN60, 59)), ((), ()))
        self.same((comes(RING60, 7), ends(RING60, 7)), (tuple(range(60)), ()))
        self.same((comes(FULL60, 3), ends(FULL60, 3)), (tuple(range(4, 50)), (50, 51, 52, 53)))
        self.same(comes(FULL60, 57), tuple(range(50)))

    def test_bad_places(self):
        for function in (comes, ends):
            for a in (-1, 8, True, False, "0", None, (0,), 60):
                self.refused(BadPlace, a, function, M, a)
            self.refused(BadPlace, 0, function, EMPTY, 0)

    def test_the_map_ahead_of_the_place(self):
        for function in (comes, ends):
            self.refused(BadMap, -2, function, (61, (), ()), -1)
            self.refused(BadWish, -1, function, (1, (), None), -1)

    def test_by_names(self):
        self.same(self.by_names(comes, chart=M, a=1), (2, 3))
        self.same(self.by_names(ends, chart=M, a=2), (4, 5))
