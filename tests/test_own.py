import random

from fewtraps.bounds import bound, lay
from fewtraps.errors import BadMap, BadNumber, BadStanding, TooMany
from fewtraps.own import own_bound, own_lays
from tests.cases import (CHAIN60, EMPTY, FULL60, M3, RING60, SPINE, Case, M, all_maps, layered_maps, some_maps,
                         spine_maps, standings_of)
from tests.reckoning import Reckoning


class TestOwn(Case):
    def both(self, chart, k, standing):
        return self.plain((own_bound(chart, k, standing), own_lays(chart, k, standing)))

    def test_examples(self):
        self.same(self.both(M, 2, (0, 1)), (2, ((2, 3), (2, 3))))
        self.same((own_bound(M, 1, (0, 2)), own_lays(M, 1, (0, 2)), own_bound(M, 0, (4, 5)), own_lays(M, 0, (4, 5))),
                  (None, None, 0, ((), ())))

    def test_the_order_of_the_threads(self):
        self.same(self.both(M3, 2, (0, 1, 2)), (3, ((1, 2), (0, 4), (3, 5))))
        self.same(self.both(M3, 2, (2, 0)), (3, ((3, 5), (1, 2))))
        self.same(self.both(M3, 2, (3, 3, 3)), (0, ((0, 6),) * 3))
        self.same(self.both(M3, 2, (0,)), (2, ((1, 2),)))

    def test_one_without_a_bound(self):
        self.same(self.both(M, 1, (2, 4)), (None, None))
        self.same(self.both(M, 1, (4, 2)), (None, None))
        self.same(self.both(M, 1, (4, 5, 2)), (None, None))
        self.same(self.both(M, 1, (4, 5, 6)), (0, ((), (), ())))

    def test_more_rows_than_bound_lets(self):
        for chart in (CHAIN60, SPINE, FULL60):
            self.refused(TooMany, 216000, bound, chart, 4, (0, 1, 2))
        self.same(self.both(CHAIN60, 1, (0, 58, 59)), (0, ((59,), (59,), ())))
        self.same(self.both(SPINE, 2, (0, 27, 28)), (29, ((1, 30), (28, 57), (58, 59))))
        self.same(self.both(SPINE, 1, (29, 0, 28)), (None, None))
        self.same(self.both(FULL60, 4, (0, 1, 2)), (0, ((50, 51, 52, 53),) * 3))
        self.same(self.both(RING60, 0, (5, 6)), (0, ((), ())))

    def test_all_maps(self):
        chance = random.Random(261)
        for chart in list(all_maps(2)) + list(some_maps(30, 3, 7, 262)) + list(layered_maps(30, 6, 12, 263)):
            reckoning = Reckoning(chart)
            for threads in (1, 2, 3):
                for k in (0, 1, 2, 3):
                    standing = tuple(chance.randrange(chart[0]) for _ in range(threads))
                    plans = [reckoning.plan(k, (place,)) for place in standing]
                    wanted = (None, None)
                    if all(number is not None for number, _ in plans):
                        wanted = (sum(number for number, _ in plans), tuple(traps for _, traps in plans))
                    self.same(self.both(chart, k, standing), wanted)
                    self.same(self.both(chart, k, standing), wanted)
                    if threads == 1:
                        self.same(wanted, (bound(chart, k, standing), None if wanted[1] is None
                                           else (lay(chart, k, standing),)))

    def test_as_many_shared_traps_give_a_bound(self):
        for chart in list(some_maps(30, 3, 6, 264)) + list(spine_maps(30, 6, 7, 265)):
            for threads in (1, 2, 3):
                for k in range(8 // threads + 1):
                    for standing in standings_of(chart, threads)[::11]:
                        if own_bound(chart, k, standing) is not None:
                            self.assertIsNotNone(bound(chart, threads * k, standing))


class TestErrors(Case):
    def test_arguments(self):
        self.checks_arguments(own_bound, k=1)
        self.checks_arguments(own_lays, k=1)

    def test_the_order(self):
        for function in (own_bound, own_lays):
            self.refused(BadMap, -1, function, None, True, None)
            self.refused(BadNumber, True, function, CHAIN60, True, (0, 60))
            self.refused(BadStanding, 1, function, CHAIN60, 0, (0, 60, 1))
            self.refused(BadStanding, 0, function, EMPTY, 0, (0,))
            self.refused(BadStanding, -1, function, EMPTY, 0, ())

    def test_by_names(self):
        self.same(self.by_names(own_bound, chart=M, k=2, standing=(0, 1)), 2)
        self.same(self.by_names(own_lays, chart=M, k=2, standing=(0, 1)), ((2, 3), (2, 3)))
