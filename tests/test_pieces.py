from fewtraps.errors import BadMap, BadPlace, BadWish
from fewtraps.pieces import piece, pieces
from tests.cases import CHAIN60, EMPTY, FULL60, M2, M3, RING60, SELF, Case, M, all_maps, some_maps
from tests.plain import come_to


class TestPieces(Case):
    def same_as_listing(self, chart):
        unwished = [place for place in range(chart[0]) if place not in chart[2]]
        wanted = []
        for a in range(chart[0]):
            here = [b for b in unwished if b in come_to(chart, (a,)) and a in come_to(chart, (b,))]
            whole = tuple(sorted({a, *here})) if a in unwished else (a,)
            self.assertEqual(piece(chart, a), whole, (chart, a))
            if a in unwished and whole not in wanted:
                wanted.append(whole)
        self.assertEqual(pieces(chart), tuple(wanted), chart)

    def test_examples(self):
        self.same(pieces(M), ((0,), (1,), (2,), (3,)))
        self.same(piece(M2, 2), (0, 1, 2, 3))
        self.same(pieces(M3), ((1,), (2,), (3,)))
        self.same(piece(M3, 0), (0,))

    def test_a_wished_place_is_alone(self):
        ring = ((0, 1), (1, 2), (2, 0))
        for a in range(3):
            self.same(piece((3, ring, (1,)), a), (a,))
            self.same(piece((3, ring, ()), a), (0, 1, 2))
            self.same(piece((3, ring, (0, 1, 2)), a), (a,))
        self.same(pieces((3, ring, (1,))), ((0,), (2,)))
        self.same(pieces((3, ring, (0, 1, 2))), ())
        self.same((piece(SELF, 0), pieces(SELF)), ((0,), ()))

    def test_a_ring_with_ways_out(self):
        chart = (6, ((0, 3), (1, 4), (3, 0), (3, 1), (4, 1), (4, 5), (5, 2)), (2,))
        self.same(pieces(chart), ((0, 3), (1, 4), (5,)))
        self.same((piece(chart, 4), piece(chart, 5), piece(chart, 2)), ((1, 4), (5,), (2,)))

    def test_alone_with_and_without_a_road_to_itself(self):
        self.same(pieces((2, ((0, 0), (0, 1)), ())), ((0,), (1,)))
        self.same((piece((2, ((0, 0),), ()), 0), piece((2, ((0, 0),), ()), 1)), ((0,), (1,)))

    def test_the_order_is_by_least_places(self):
        chart = (5, ((0, 4), (1, 3), (3, 1), (4, 0)), ())
        self.same(pieces(chart), ((0, 4), (1, 3), (2,)))

    def test_all_small_maps(self):
        for places in range(4):
            for chart in all_maps(places):
                self.same_as_listing(chart)

    def test_some_larger_maps(self):
        for chart in some_maps(100, 4, 9, 22):
            self.same_as_listing(chart)

    def test_large_maps(self):
        self.same(pieces(EMPTY), ())
        self.same(pieces(CHAIN60), tuple((a,) for a in range(59)))
        self.same((pieces(RING60), piece(RING60, 33)), ((tuple(range(60)),), tuple(range(60))))
        self.same(pieces(FULL60), tuple((a,) for a in range(50)))
        self.same(pieces((60, FULL60[1], ())), (tuple(range(60)),))

    def test_bad_places(self):
        for a in (-1, 8, True, False, "0", None, (0,)):
            self.refused(BadPlace, a, piece, M, a)
        self.refused(BadPlace, 0, piece, EMPTY, 0)

    def test_bad_maps(self):
        self.refused(BadMap, 0, piece, (1, (None,), ()), -1)
        self.refused(BadMap, -1, pieces, [])
        self.refused(BadWish, 0, pieces, (1, (), (1,)))

    def test_by_names(self):
        self.same(self.by_names(piece, chart=M2, a=3), (0, 1, 2, 3))
        self.same(self.by_names(pieces, chart=M3), ((1,), (2,), (3,)))
