import itertools

from fewtraps.errors import BadMap, BadStanding, BadWish, TooMany
from fewtraps.pieces import piece, pieces
from fewtraps.reach import comes
from fewtraps.standings import is_later, is_standing, later_rows, made_standing, members, row_of
from tests.cases import CHAIN60, EMPTY, FULL60, M2, M3, NO_MAPS, RING60, SELF, Case, M, all_maps, some_maps

EXAMPLE = (5, ((0, 1), (1, 0), (1, 2), (2, 3), (2, 4), (3, 3)), (4,))

NO_STANDINGS = (
    (-1, None), (-1, 3), (-1, True), (-1, "0"), (-1, ()), (-1, [0]), (-1, [0, 1]), (-1, (0, 0, 0, 0)), (-1, {}),
    (0, (5,)), (0, (-1,)), (0, (True,)), (0, (False,)), (0, ("0",)), (0, (None,)), (0, ((0,),)), (0, ([0],)),
    (1, (0, 5)), (1, (0, False, True)), (1, (4, "1")), (2, (0, 0, 60)), (2, (4, 4, ())), (0, (7, 8, 9)), (0, (-1, 5)),
)


def standings(places, threads):
    return list(itertools.product(range(places), repeat=threads))


class TestMadeStanding(Case):
    def test_standings(self):
        for standing in ((0,), (4,), (1, 4), (4, 1), (0, 0), (2, 2, 2), (4, 4, 4), (3, 0, 4)):
            self.same(made_standing(EXAMPLE, standing), standing)
            self.same(is_standing(EXAMPLE, standing), True)

    def test_no_standings(self):
        for what, thing in NO_STANDINGS:
            self.same(is_standing(EXAMPLE, thing), False)
            for function in (made_standing, row_of, members, later_rows):
                self.refused(BadStanding, what, function, EXAMPLE, thing)

    def test_a_map_without_places(self):
        self.refused(BadStanding, 0, made_standing, EMPTY, (0,))
        self.refused(BadStanding, -1, made_standing, EMPTY, ())
        self.same(is_standing(EMPTY, (0,)), False)

    def test_the_map_ahead_of_the_standing(self):
        for function in (made_standing, row_of, members, later_rows):
            self.refused(BadMap, -2, function, (-1, (), ()), ())
            self.refused(BadWish, 0, function, (1, (), (1,)), None)
        for chart in NO_MAPS:
            self.same(is_standing(chart, (0,)), False)

    def test_by_names(self):
        self.same(self.by_names(made_standing, chart=EXAMPLE, thing=(1, 4)), (1, 4))
        self.same(self.by_names(is_standing, chart=EXAMPLE, thing=(1, 4)), True)


class TestRowsAndMembers(Case):
    def test_examples(self):
        self.same(row_of(EXAMPLE, (1, 4)), (0, 4))
        self.same(members(EXAMPLE, (1, 4)), (0, 1, 4))
        self.same(members(EXAMPLE, (2, 2, 2)), (2,))

    def test_rows(self):
        self.same(row_of(M2, (3,)), (0,))
        self.same(row_of(M2, (3, 6, 2)), (0, 6, 0))
        self.same(row_of(M2, (6, 1, 6)), (6, 0, 6))
        self.same(row_of(M3, (0, 3)), (0, 3))
        self.same(row_of(SELF, (0, 0)), (0, 0))

    def test_members(self):
        self.same(members(M2, (3,)), (0, 1, 2, 3))
        self.same(members(M2, (6, 2)), (0, 1, 2, 3, 6))
        self.same(members(M2, (6, 4, 6)), (4, 6))
        self.same(members(M3, (0,)), (0,))

    def test_a_row_is_its_own_row_and_has_the_same_members(self):
        for chart in some_maps(40, 2, 6, 61):
            for threads in (1, 2, 3):
                for standing in standings(chart[0], threads)[:40]:
                    wanted = {place for one in standing for place in piece(chart, one)}
                    self.assertEqual(members(chart, standing), tuple(sorted(wanted)))
                    row = row_of(chart, standing)
                    self.assertEqual(row, tuple(piece(chart, place)[0] for place in standing))
                    self.assertEqual(row_of(chart, row), row)
                    self.assertEqual(members(chart, row), members(chart, standing))

    def test_maps_of_60_places(self):
        self.same(row_of(RING60, (9, 59, 30)), (0, 0, 0))
        self.same(members(RING60, (7,)), tuple(range(60)))
        self.same((row_of(CHAIN60, (59, 7)), members(CHAIN60, (59, 7))), ((59, 7), (7, 59)))
        self.same(members((60, FULL60[1], ()), (7, 8, 9)), tuple(range(60)))

    def test_by_names(self):
        self.same(self.by_names(row_of, chart=EXAMPLE, standing=(1, 4)), (0, 4))
        self.same(self.by_names(members, chart=EXAMPLE, standing=(1, 4)), (0, 1, 4))


class TestLater(Case):
    def later(self, chart, a, b):
        return b in piece(chart, a) or b in comes(chart, a)

    def same_as_listing(self, chart, threads):
        every = standings(chart[0], threads)
        least = [place for place in range(chart[0]) if piece(chart, place)[0] == place]
        for one in every:
            wanted = [two for two in every if all(self.later(chart, a, b) for a, b in zip(one, two))]
            self.assertEqual([two for two in every if is_later(chart, one, two)], wanted, (chart, one))
            rows = tuple(two for two in wanted if all(place in least for place in two))
            self.assertEqual(later_rows(chart, one), rows, (chart, one))

    def test_example(self):
        self.same(later_rows(EXAMPLE, (1, 4)), ((0, 4), (2, 4), (3, 4)))

    def test_each_standing_is_later_than_itself(self):
        for chart in (EXAMPLE, M, M2, M3, SELF):
            for threads in (1, 2, 3):
                for standing in standings(min(chart[0], 5), threads):
                    self.same(is_later(chart, standing, standing), True)

    def test_later(self):
        self.same(is_later(EXAMPLE, (1,), (0,)), True)
        self.same(is_later(EXAMPLE, (0,), (3,)), True)
        self.same(is_later(EXAMPLE, (3,), (2,)), False)
        self.same(is_later(EXAMPLE, (0, 4), (1, 4)), True)
        # A thread comes to the wished place 4, but no standing with it there is later.
        self.same(is_later(EXAMPLE, (2,), (4,)), False)
        self.same(is_later(EXAMPLE, (0, 3), (3, 0)), False)
        self.same(is_later(M3, (0,), (3,)), True)
        self.same(is_later(M3, (3,), (0,)), False)

    def test_other_numbers_of_threads(self):
        self.same(is_later(EXAMPLE, (0,), (0, 0)), False)
        self.same(is_later(EXAMPLE, (0, 0), (0,)), False)
        self.same(is_later(EXAMPLE, (0, 0), (0, 0, 0)), False)

    def test_is_later_of_anything(self):
        for _, thing in NO_STANDINGS:
            self.same(is_later(EXAMPLE, thing, (0,)), False)
            self.same(is_later(EXAMPLE, (0,), thing), False)
            self.same(is_later(EXAMPLE, thing, thing), False)
        for chart in NO_MAPS:
            self.same(is_later(chart, (0,), (0,)), False)

    def test_small_maps(self):
        for places in range(3):
            for chart in all_maps(places):
                for threads in (1, 2, 3):
                    self.same_as_listing(chart, threads)
        for number, chart in enumerate(all_maps(3)):
            if number % 8 == 0:
                self.same_as_listing(chart, 1)
                self.same_as_listing(chart, 2)

    def test_some_larger_maps(self):
        for chart in some_maps(40, 4, 7, 62):
            self.same_as_listing(chart, 1)
            if chart[0] < 6:
                self.same_as_listing(chart, 2)

    def test_the_rows_ascend(self):
        rows = later_rows(EXAMPLE, (1, 2, 4))
        self.assertEqual(rows, tuple(sorted(set(rows))))
        self.same(rows, ((0, 2, 4), (0, 3, 4), (2, 2, 4), (2, 3, 4), (3, 2, 4), (3, 3, 4)))
        self.same(later_rows(M, (1, 0))[:3], ((1, 0), (1, 1), (1, 2)))

    def test_maps_of_60_places(self):
        self.same(later_rows(CHAIN60, (0,)), tuple((place,) for place in range(59)))
        self.same(later_rows(CHAIN60, (59,)), ((59,),))
        self.same(later_rows(RING60, (4, 5, 6)), ((0, 0, 0),))
        self.same(later_rows(FULL60, (57,)), tuple((place,) for place in range(50)) + ((57,),))
        self.same(later_rows(FULL60, (55,)), ((55,),))

    def test_by_names(self):
        self.same(self.by_names(is_later, chart=EXAMPLE, one=(0,), two=(3,)), True)
        self.same(self.by_names(is_later, chart=EXAMPLE, one=(3,), two=(0,)), False)
        self.same(self.by_names(later_rows, chart=EXAMPLE, standing=(1, 4)), ((0, 4), (2, 4), (3, 4)))


class TestSize(Case):
    def test_one_thread_is_always_let(self):
        self.same(later_rows((60, (), ()), (7,)), ((7,),))

    def test_two_threads(self):
        self.same(later_rows((20, (), ()), (3, 4)), ((3, 4),))
        self.same(later_rows((20, (), tuple(range(9))), (3, 19)), ((3, 19),))
        self.refused(TooMany, 441, later_rows, (21, (), ()), (3, 4))
        self.refused(TooMany, 441, later_rows, (21, (), tuple(range(9))), (3, 4))
        self.refused(TooMany, 3600, later_rows, CHAIN60, (0, 0))

    def test_three_threads(self):
        self.same(later_rows((7, (), (0,)), (0, 1, 2)), ((0, 1, 2),))
        self.refused(TooMany, 512, later_rows, (8, (), (0,)), (0, 1, 2))
        self.refused(TooMany, 216000, later_rows, CHAIN60, (0, 0, 0))

    def test_pieces_count_once(self):
        ring = (22, tuple(sorted((a, (a + 1) % 3) for a in range(3))), ())
        self.same(len(pieces(ring)), 20)
        self.same(later_rows(ring, (1, 21)), ((0, 21),))

    def test_behind_all_other_errors(self):
        self.refused(BadStanding, 1, later_rows, CHAIN60, (0, 60))
        self.refused(BadStanding, -1, later_rows, CHAIN60, (0, 0, 0, 0))

    def test_only_later_rows_is_refused(self):
        self.same(made_standing(CHAIN60, (0, 0, 0)), (0, 0, 0))
        self.same(row_of(CHAIN60, (0, 7, 0)), (0, 7, 0))
        self.same(members(CHAIN60, (0, 7, 0)), (0, 7))
        self.same(is_later(CHAIN60, (0, 0, 0), (1, 0, 58)), True)
