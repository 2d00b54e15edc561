from fewtraps.bounds import bound
from fewtraps.edits import with_road, with_wish, without_road, without_wish
from fewtraps.errors import BadMap, BadPlace, BadWish, NoRoad, NotWished, TooMany, Twice
from fewtraps.maps import is_map, made_map
from fewtraps.walls import wall
from tests.cases import EMPTY, FULL60, M2, NO_MAPS, SELF, Case, M, all_maps, lots_of, some_maps

FORK = (4, ((0, 1), (1, 2), (1, 3)), (2, 3))
NO_PLACES = (-1, 4, 60, True, False, None, "0", (0,), (), [], 0.0)


class TestEdits(Case):
    def made(self, chart):
        """Expect a map in tuples; return it."""
        self.same(made_map(chart), self.plain(chart))
        self.same(is_map(chart), True)
        return chart

    def test_examples(self):
        self.same((with_road(FORK, 1, 0), without_road(FORK, 1, 2)),
                  ((4, ((0, 1), (1, 0), (1, 2), (1, 3)), (2, 3)), (4, ((0, 1), (1, 3)), (2, 3))))
        self.same((with_wish(FORK, 0), without_wish(FORK, 3)),
                  ((4, ((0, 1), (1, 2), (1, 3)), (0, 2, 3)), (4, ((0, 1), (1, 2), (1, 3)), (2,))))

    def test_roads(self):
        self.same(with_road(FORK, 0, 0)[1], ((0, 0), (0, 1), (1, 2), (1, 3)))
        self.same(with_road(FORK, 3, 3)[1], ((0, 1), (1, 2), (1, 3), (3, 3)))
        self.same(with_road(FORK, 1, 1)[1], ((0, 1), (1, 1), (1, 2), (1, 3)))
        self.same(with_road((2, (), ()), 1, 0), (2, ((1, 0),), ()))
        self.same(without_road(FORK, 0, 1)[1], ((1, 2), (1, 3)))
        self.same(without_road(FORK, 1, 3)[1], ((0, 1), (1, 2)))
        self.same(without_road(SELF, 0, 0), (1, (), (0,)))

    def test_wishes(self):
        self.same(with_wish(FORK, 1), (4, FORK[1], (1, 2, 3)))
        self.same(with_wish((4, (), (0, 2)), 3)[2], (0, 2, 3))
        self.same(with_wish((4, (), ()), 3)[2], (3,))
        self.same(without_wish(FORK, 2)[2], (3,))
        self.same(without_wish(SELF, 0), (1, ((0, 0),), ()))

    def test_an_edit_and_its_opposite(self):
        for chart in list(all_maps(2)) + list(some_maps(40, 3, 7, 271)) + [FULL60]:
            places, roads, wished = chart
            for a in range(places):
                for b in range(0, places, 1 + places // 10):
                    if (a, b) in roads:
                        self.same(with_road(self.made(without_road(chart, a, b)), a, b), chart)
                        self.refused(Twice, 0, with_road, chart, a, b)
                    else:
                        self.refused(NoRoad, 0, without_road, chart, a, b)
                        if len(roads) < 240:
                            self.same(without_road(self.made(with_road(chart, a, b)), a, b), chart)
                if a in wished:
                    self.same(with_wish(self.made(without_wish(chart, a)), a), chart)
                    self.refused(Twice, 0, with_wish, chart, a)
                else:
                    self.same(without_wish(self.made(with_wish(chart, a)), a), chart)
                    self.refused(NotWished, 0, without_wish, chart, a)

    def test_240_roads(self):
        self.refused(Twice, 0, with_road, FULL60, 0, 1)
        self.refused(TooMany, 240, with_road, FULL60, 0, 0)
        self.refused(TooMany, 240, with_road, FULL60, 59, 58)
        fewer = self.made(without_road(FULL60, 59, 0))
        self.same(len(fewer[1]), 239)
        more = self.made(with_road(fewer, 0, 0))
        self.same((len(more[1]), more[1][0]), (240, (0, 0)))
        self.refused(TooMany, 240, with_road, more, 59, 0)
        self.refused(Twice, 0, with_road, more, 0, 0)

    def test_60_wished_places(self):
        chart = (60, (), tuple(range(59)))
        self.same(with_wish(chart, 59)[2], tuple(range(60)))

    def test_what_edits_do_to_bounds(self):
        self.same((bound(M2, 2, (0,)), bound(with_wish(M2, 0), 2, (0,))), (None, 2))
        for chart in some_maps(20, 3, 6, 272):
            for lot in lots_of(range(chart[0]), 2):
                for a in range(chart[0]):
                    if (a, 0) not in chart[1]:
                        more = wall(with_road(chart, a, 0), lot) - wall(chart, lot)
                        self.assertIn(more, (0, 1))


class TestErrors(Case):
    def test_maps(self):
        for function, arguments in ((with_road, (9, 9)), (without_road, (9, 9)), (with_wish, (9,)),
                                    (without_wish, (9,))):
            for chart in NO_MAPS:
                with self.assertRaises((BadMap, BadWish)):
                    function(chart, *arguments)
            self.refused(BadMap, 1, function, (1, ((0, 0), (0, 0)), ()), *arguments)
            self.refused(BadWish, 0, function, (1, (), (1,)), *arguments)

    def test_places(self):
        for thing in NO_PLACES:
            for function in (with_road, without_road):
                self.refused(BadPlace, thing, function, FORK, thing, 1)
                self.refused(BadPlace, thing, function, FORK, 0, thing)
                self.refused(BadPlace, thing, function, FORK, thing, -7)
            for function in (with_wish, without_wish):
                self.refused(BadPlace, thing, function, FORK, thing)
        self.refused(BadPlace, 60, with_road, FULL60, 0, 60)
        for function in (with_wish, without_wish):
            self.refused(BadPlace, 0, function, EMPTY, 0)

    def test_by_names(self):
        self.same(self.by_names(with_road, chart=M, a=4, b=0)[1][-1], (4, 0))
        self.same(self.by_names(without_road, chart=M, a=3, b=7)[1][-1], (3, 6))
        self.same(self.by_names(with_wish, chart=M, a=3)[2], (3, 4, 5, 6, 7))
        self.same(self.by_names(without_wish, chart=M, a=7)[2], (4, 5, 6))
