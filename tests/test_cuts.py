import random

from fewtraps.cuts import cuts, missed
from fewtraps.errors import BadLot, BadMap, BadWish
from tests.cases import (CHAIN60, EMPTY, FULL60, NO_LOTS, RING60, SELF, Case, M, all_maps, lots_of, some_lot, some_maps)
from tests.plain import walks_from


class TestCuts(Case):
    def same_as_listing(self, chart, tries):
        """Compare with the walks that reach a wished place; none that is shortest has more roads than places."""
        walks = [[walk for walk in walks_from(chart, a) if walk[-1] in chart[2]] for a in range(chart[0])]
        for traps, lot in tries:
            let = [walk for a in lot for walk in walks[a] if not set(walk[1:]) & set(traps)]
            wanted = min(let, key=lambda walk: (len(walk), walk), default=None)
            self.assertEqual(missed(chart, traps, lot), wanted, (chart, traps, lot))
            self.assertIs(cuts(chart, traps, lot), wanted is None)

    def test_examples(self):
        self.same(cuts(M, (1,), (0,)), True)
        self.same(cuts(M, (0,), (0,)), False)
        self.same(missed(M, (0,), (0,)), (0, 1, 2, 4))
        self.same(missed(M, (0, 2), (0, 1)), (1, 3, 6))
        self.same(missed(M, (1,), (1,)), (1, 2, 4))
        self.same(missed(SELF, (), (0,)), (0, 0))
        self.same(cuts(SELF, (0,), (0,)), True)
        self.same(missed(M, (), (4, 5)), None)

    def test_the_first_item_does_not_count(self):
        self.same(missed((2, ((0, 1),), (1,)), (0,), (0,)), (0, 1))
        self.same(missed((2, ((0, 1),), (1,)), (0,), (0, 1)), (0, 1))

    def test_the_last_item_counts(self):
        self.same(cuts((2, ((0, 1),), (1,)), (1,), (0,)), True)
        self.same(missed((2, ((0, 1),), (1,)), (1,), (0,)), None)

    def test_the_first_place_counts_when_it_stands_there_again(self):
        back = (2, ((0, 1), (1, 0)), (0,))
        self.same(missed(back, (), (0,)), (0, 1, 0))
        self.same(missed(back, (0,), (0,)), None)
        self.same(cuts(back, (1,), (0,)), True)
        # Only a walk through 0 again would reach 2 from 1.
        again = (3, ((0, 1), (0, 2), (1, 0)), (2,))
        self.same(missed(again, (0,), (1,)), None)
        self.same(missed(again, (0,), (0, 1)), (0, 2))

    def test_walks_begin_at_wished_places_too(self):
        chart = (3, ((0, 1), (1, 2)), (0, 2))
        self.same(missed(chart, (), (0,)), (0, 1, 2))
        self.same(missed(chart, (0,), (0,)), (0, 1, 2))
        self.same(cuts(chart, (1,), (0,)), True)

    def test_walks_end_at_the_first_wished_place(self):
        chart = (3, ((0, 1), (1, 2)), (1, 2))
        self.same(missed(chart, (), (0,)), (0, 1))
        self.same(missed(chart, (1,), (0,)), None)

    def test_the_least_of_the_shortest(self):
        chart = (7, ((0, 2), (0, 3), (1, 2), (2, 6), (3, 4), (3, 5)), (4, 5, 6))
        self.same(missed(chart, (), (0, 1)), (0, 2, 6))
        self.same(missed(chart, (2,), (0, 1)), (0, 3, 4))
        self.same(missed(chart, (2, 4), (0, 1)), (0, 3, 5))
        longer = (6, ((0, 1), (1, 2), (2, 5), (3, 4), (4, 5)), (5,))
        self.same(missed(longer, (), (0, 3)), (3, 4, 5))

    def test_nothing_to_cut_and_nothing_to_cut_with(self):
        for chart in (EMPTY, M, FULL60):
            self.same((cuts(chart, (), ()), missed(chart, (), ())), (True, None))
        self.same(cuts(M, (4, 5, 6, 7), ()), True)
        self.same(missed(M, (), (2,)), (2, 4))
        self.same(missed((3, ((0, 1), (1, 2)), ()), (), (0, 1, 2)), None)

    def test_all_small_maps(self):
        for places in range(4):
            lots = lots_of(range(places))
            tries = [(traps, lot) for traps in lots for lot in lots]
            for chart in all_maps(places):
                self.same_as_listing(chart, tries)

    def test_some_larger_maps(self):
        chance = random.Random(31)
        for chart in some_maps(150, 4, 6, 32):
            every = range(chart[0])
            self.same_as_listing(chart, [(some_lot(chance, every), some_lot(chance, every)) for _ in range(20)])

    def test_maps_of_60_places(self):
        self.same(missed(CHAIN60, (0,), (0,)), tuple(range(60)))
        self.same(missed(CHAIN60, (17,), (0, 16)), None)
        self.same(missed(CHAIN60, (17,), (0, 17, 40)), tuple(range(40, 60)))
        self.same(cuts(RING60, (), tuple(range(60))), True)
        ring = (60, RING60[1], (5,))
        self.same(missed(ring, (), (5,)), tuple(range(5, 60)) + tuple(range(6)))
        self.same(cuts(ring, (5,), (5,)), True)
        self.same(missed(FULL60, (), (0,)), (0, 2) + tuple(range(6, 54, 4)))
        self.same(cuts(FULL60, (10, 11, 12, 13), (0, 9)), True)
        self.same(missed(FULL60, (10, 11, 12), (0, 9)), (9, 13) + tuple(range(14, 54, 4)))

    def test_bad_lots(self):
        chart = (3, (), ())
        for function in (cuts, missed):
            for lot in NO_LOTS:
                self.refused(BadLot, -1, function, chart, lot, (0,))
                self.refused(BadLot, -1, function, chart, (0,), lot)
                self.refused(BadLot, -1, function, chart, (), lot)

    def test_the_map_ahead_of_the_lots(self):
        for function in (cuts, missed):
            self.refused(BadMap, -3, function, (1, 0, 0), None, None)
            self.refused(BadWish, -1, function, (1, (), 0), (), (7,))

    def test_by_names(self):
        self.same(self.by_names(cuts, chart=M, traps=(1,), lot=(0,)), True)
        self.same(self.by_names(missed, chart=M, traps=(0, 2), lot=(0, 1)), (1, 3, 6))
