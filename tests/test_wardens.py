import collections
import random

from fewtraps.bounds import bound, lay
from fewtraps.errors import BadMap, BadNumber, BadStanding, BadWarden, BadWish, TooMany
from fewtraps.plays import referee
from fewtraps.wardens import beaten, is_warden, made_warden, plan_warden
from tests.cases import (CHAIN, EMPTY, FULL60, M2, M3, NO_COUNTS, NO_LOTS, NO_MAPS, NO_STANDINGS, RING60, SELF, SPINE,
                         Case, M, all_maps, layered_maps, some_lot, some_maps, spine_maps, standings_of)
from tests.judging import ODD

ANY = (3, ((0, 1), (1, 2)), (2,))
WARDEN = (((0,), (1, 2)), ((0, 0), ()), ((0, 0, 0), (2,)), ((0, 1), (0, 1)), ((2,), (0,)), ((2, 2, 2), ()))


def can_be_beaten(chart, standing, warden, j):
    """Return whether some play beats the warden, by going through all there are, stop by stop."""
    laid = dict(warden)
    seen = {(standing, standing, 0)}
    waiting = list(seen)
    while waiting:
        here, stop, idle = waiting.pop()
        for i, place in enumerate(here):
            for b in [b for a, b in chart[1] if a == place]:
                behind = here[:i] + (b,) + here[i + 1:]
                trapped = b in laid.get(stop, ())
                further = (behind, stop, idle)
                if b in chart[2]:
                    if not trapped:
                        return True
                    continue
                if trapped:
                    further = (behind, behind, idle + 1)
                    if idle == j:
                        return True
                if further not in seen:
                    seen.add(further)
                    waiting.append(further)
    return False


def random_warden(chance, chart, k, standings):
    """Return a warden that lays any lots at most of these standings."""
    kept = sorted(standing for standing in standings if chance.random() < 0.9)
    return tuple((standing, some_lot(chance, range(chart[0]))[:k]) for standing in kept)


class TestMadeWarden(Case):
    def bad(self, what, thing, k=2):
        self.refused(BadWarden, what, made_warden, ANY, k, thing)
        self.same(is_warden(ANY, k, thing), False)

    def good(self, thing, chart=ANY, k=2):
        self.same(self.plain(made_warden(chart, k, thing)), thing)
        self.same(is_warden(chart, k, thing), True)

    def test_wardens(self):
        self.good(())
        self.good(WARDEN)
        for pair in WARDEN:
            self.good((pair,))
        self.good((((0,), ()), ((2,), ())), k=0)
        self.good((((7,), tuple(range(8))),), chart=M, k=8)

    def test_what_is_no_tuple(self):
        for thing in (None, 0, True, "", "warden", [], [((0,), ())], {}):
            self.bad(-1, thing)

    def test_400_items(self):
        chart = (60, (), ())
        pairs = tuple((standing, ()) for standing in standings_of(chart, 2)[:401])
        self.good(pairs[:400], chart=chart)
        self.good(pairs[1:], chart=chart)
        self.refused(BadWarden, -1, made_warden, chart, 0, pairs)
        self.bad(-1, (None,) * 401)
        self.bad(0, (None,) * 400)

    def test_pairs(self):
        for pair in (None, 0, True, "ab", (), ((0,),), ((0,), (), ()), [(0,), ()], ((), ()), ("0", ()), (0, ())):
            self.bad(0, (pair,))
            self.bad(1, (((0,), ()), pair))
            self.bad(2, WARDEN[:2] + (pair,) + WARDEN[2:])
            self.bad(2, WARDEN[:2] + (pair, pair))

    def test_standings(self):
        for _, standing in NO_STANDINGS:
            self.bad(0, ((standing, ()),))
            self.bad(1, (((0,), ()), (standing, ())))

    def test_lots(self):
        for lot in NO_LOTS + ((0, 1, 2),):
            self.bad(0, (((0,), lot),))
            self.bad(2, WARDEN[:2] + (((1,), lot),))
        self.bad(0, (((0,), (0,)),), k=0)
        self.bad(1, (((0,), (0,)), ((1,), (0, 1))), k=1)

    def test_standings_ascend(self):
        self.bad(1, (((0,), ()), ((0,), ())))
        self.bad(1, (((0,), ()), ((0,), (1,))))
        self.bad(1, (((1,), ()), ((0,), ())))
        self.bad(2, (((0,), ()), ((1,), ()), ((0, 2), ())))
        self.bad(1, (((0, 0), ()), ((0,), ())))
        self.bad(1, (((0, 1), ()), ((0, 0, 2), ())))
        self.bad(3, WARDEN[:3] + WARDEN[2:])
        for index in range(len(WARDEN) - 1):
            self.bad(index + 1, WARDEN[:index] + (WARDEN[index + 1], WARDEN[index]) + WARDEN[index + 2:])

    def test_the_order_of_the_errors(self):
        self.refused(BadMap, -1, made_warden, None, 9, None)
        self.refused(BadWish, 0, made_warden, (2, (), (2,)), 9, None)
        for chart in NO_MAPS:
            self.same(is_warden(chart, 2, ()), False)
        for k in NO_COUNTS:
            self.refused(BadNumber, k, made_warden, ANY, k, None)
            self.same(is_warden(ANY, k, ()), False)

    def test_is_warden_of_anything(self):
        for thing in ODD:
            self.same(is_warden(ANY, 2, thing), thing == (((0,), ()),))
            self.same(is_warden(ANY, 2, (thing,)), False)
            self.same(is_warden(ANY, 2, ((thing, ()),)), thing == (0,))
            self.same(is_warden(ANY, 2, (((0,), thing),)), thing == (0,))
            self.same(is_warden(thing, 2, ()), False)
        self.same(is_warden(EMPTY, 0, ()), True)
        self.same(is_warden(EMPTY, 0, (((0,), ()),)), False)

    def test_by_names(self):
        self.same(self.by_names(made_warden, chart=ANY, k=2, thing=WARDEN), WARDEN)
        self.same(self.by_names(is_warden, chart=ANY, k=2, thing=WARDEN), True)


class TestPlanWarden(Case):
    def right(self, chart, k, n):
        """Expect just the standings with a bound, each with its lay; return the warden."""
        found = self.plain(plan_warden(chart, k, n))
        lays = [(standing, lay(chart, k, standing)) for standing in standings_of(chart, n)]
        self.same(found, tuple((standing, traps) for standing, traps in lays if traps is not None))
        self.same(made_warden(chart, k, found), found)
        self.same(plan_warden(chart, k, n), found)
        return found

    def test_example(self):
        self.same(plan_warden(M, 2, 1)[:3], (((0,), (2, 3)), ((1,), (2, 3)), ((2,), (4, 5))))

    def test_all_standings(self):
        self.same(self.right(M3, 2, 1)[:4], (((0,), (1, 2)), ((1,), (0, 4)), ((2,), (3, 5)), ((3,), (0, 6))))
        self.same(len(self.right(M, 4, 1)), 8)
        self.same([standing for standing, _ in self.right(M, 1, 1)], [(4,), (5,), (6,), (7,)])
        self.same(self.right(CHAIN, 0, 1), (((3,), ()),))
        self.same(len(self.right(M2, 3, 2)), 49)
        self.same(self.right(SELF, 1, 3), (((0, 0, 0), (0,)),))
        self.same(self.right(SELF, 0, 3), ())

    def test_other_maps(self):
        for chart in list(all_maps(2)) + list(some_maps(12, 3, 6, 291)) + list(spine_maps(12, 6, 8, 292)):
            for n in (1, 2, 3):
                for k in (0, 1, 2, 3) if chart[0] ** n < 100 else (2,):
                    if chart[0] ** n <= 225:
                        self.right(chart, k, n)

    def test_no_places(self):
        for n in (1, 2, 3):
            self.same(plan_warden(EMPTY, 0, n), ())

    def test_how_many_standings(self):
        self.same(len(plan_warden(FULL60, 4, 1)), 60)
        self.same(len(plan_warden((15, (), ()), 0, 2)), 225)
        self.same(len(plan_warden((6, (), ()), 0, 3)), 216)
        for places, n, count in ((16, 2, 256), (60, 2, 3600), (7, 3, 343), (60, 3, 216000)):
            for k in (0, 8):
                self.refused(TooMany, count, plan_warden, (places, (), ()), k, n)
        whole = (15, tuple((a, b) for a in range(15) for b in range(15)), tuple(range(7, 15)))
        wanted = tuple((standing, tuple(range(7, 15))) for standing in standings_of(whole, 2))
        self.same(plan_warden(whole, 8, 2), wanted)

    def test_errors(self):
        for n in (0, 4, -1, True, False, None, "1", (1,), 1.0):
            self.refused(BadNumber, n, plan_warden, ANY, 2, n)
            self.refused(BadNumber, n, plan_warden, FULL60, 2, n)
        for k in NO_COUNTS:
            self.refused(BadNumber, k, plan_warden, FULL60, k, 0)
        self.refused(BadMap, -1, plan_warden, None, 9, 0)
        self.refused(BadWish, 0, plan_warden, (2, (), (2,)), 9, 0)

    def test_by_names(self):
        self.same(self.by_names(plan_warden, chart=SELF, k=1, n=2), (((0, 0), (0,)),))


class TestBeaten(Case):
    def right(self, chart, k, standing, warden, j):
        """Expect None or a play that beats the warden; return it."""
        play = beaten(chart, k, standing, warden, j)
        self.assertEqual(beaten(chart, k, standing, warden, j), play)
        self.assertEqual(play is not None, can_be_beaten(chart, standing, warden, j), (chart, k, standing, warden, j))
        if play is not None:
            self.assertIs(type(play), tuple)
            self.shows(chart, k, standing, warden, j, play)
        return play

    def shows(self, chart, k, standing, warden, j, play):
        events, _ = referee(chart, k, standing, play)
        idle = events.count("idle")
        self.assertNotIn("wished", events)
        self.assertIn((events[-1], idle <= j, idle), (("miss", True, idle), ("idle", False, j + 1)))
        for index, entry in enumerate(play):
            if entry[0] == "lay":
                seen = referee(chart, k, standing, play[:index])[1]
                self.same(entry[1], dict(warden).get(seen, ()))

    def test_examples(self):
        self.same(beaten(M, 2, (0,), plan_warden(M, 2, 1), 1) is None, True)

    def test_the_plan_at_its_bound(self):
        for chart, k, standing in ((M, 2, (0,)), (M3, 2, (0,)), (M3, 2, (2,)), (M3, 2, (0, 4)), (M, 4, (0,)),
                                   (CHAIN, 1, (0,))):
            plan = plan_warden(chart, k, len(standing))
            number = bound(chart, k, standing)
            for j in range(number + 3):
                self.same(self.right(chart, k, standing, plan, j) is None, j >= number)

    def test_a_miss(self):
        self.same(self.right(SELF, 1, (0,), (), 0), (("lay", ()), ("go", 0, 0)))
        self.same(self.right(SELF, 1, (0,), (((0,), (0,)),), 0), None)
        # Where the standing does not occur, nothing is laid.
        self.same(self.right(CHAIN, 1, (0,), (((1,), (3,)), ((2,), (3,))), 20)[0], ("lay", ()))
        self.same(self.right(CHAIN, 1, (0, 3), (((0,), (3,)), ((3, 0), (3,))), 20)[-1], ("go", 0, 3))
        self.same(self.right(CHAIN, 1, (0, 3), (((0, 3), (3,)),), 20), None)
        # A miss behind the idle stop at 1.
        self.same(self.right(CHAIN, 1, (0,), (((0,), (1,)),), 1),
                  (("lay", (1,)), ("go", 0, 1), ("lay", ()), ("go", 0, 2), ("go", 0, 3)))
        self.same(self.right(CHAIN, 1, (0,), (((0,), (1,)),), 0), (("lay", (1,)), ("go", 0, 1)))

    def test_idle_stops(self):
        # A trap in a ring is hit for ever.
        warden = (((0,), (0,)), ((1,), ()))
        ring = (2, ((0, 0), (0, 1)), ())
        for j in (0, 1, 20):
            self.same(self.right(ring, 1, (0,), warden, j), (("lay", (0,)), ("go", 0, 0)) * (j + 1))
        self.same(self.right(ring, 1, (1,), warden, 0), None)
        steps = (((0,), (1,)), ((1,), (2,)), ((2,), (3,)))
        for j in range(4):
            self.same(self.right(CHAIN, 1, (0,), steps, j) is None, j > 1)

    def test_wished_stops_end_the_leg(self):
        back = (2, ((0, 1), (1, 0)), (1,))
        self.same(self.right(back, 1, (0,), (((0,), (1,)),), 0), None)
        self.same(self.right(back, 1, (1,), (((1,), (1,)),), 0), None)
        self.same(self.right(back, 1, (1,), (((0,), (1,)),), 0)[-1], ("go", 0, 1))

    def test_threads_that_go_on_unseen(self):
        # While thread 0 goes to the trap at 1, thread 1 goes on to 3, where the warden has not seen it.
        chart = (5, ((0, 1), (2, 3), (3, 4)), (4,))
        warden = (((0, 2), (1, 4)), ((1, 2), (4,)))
        self.same(self.right(chart, 2, (0, 2), warden, 1)[-1], ("go", 1, 4))
        self.same(self.right(chart, 2, (0, 2), warden + (((1, 3), (4,)),), 1), None)

    def test_small_maps(self):
        chance = random.Random(293)
        for places in (1, 2, 3):
            for number, chart in enumerate(all_maps(places)):
                if number % 16 == 0 or places < 3:
                    for threads in (1, 2):
                        every = standings_of(chart, threads)
                        for k in (0, 1, 2):
                            warden = random_warden(chance, chart, k, every)
                            self.right(chart, k, chance.choice(every), warden, chance.choice((0, 1, 2)))

    def test_other_maps(self):
        chance = random.Random(294)
        told = collections.Counter()
        charts = list(some_maps(80, 3, 6, 295)) + list(spine_maps(80, 6, 8, 296)) + list(layered_maps(80, 4, 8, 297))
        for chart in charts:
            for threads in (1, 2, 3):
                every = standings_of(chart, threads)
                if len(every) <= 225:
                    standing = chance.choice(every)
                    j = chance.choice((0, 1, 2, 20))
                    wardens = (random_warden(chance, chart, 3, every), plan_warden(chart, 3, threads))
                    for warden in wardens:
                        told[self.right(chart, 3, standing, warden, j) is None] += 1
        self.assertGreater(min(told.values()), 100)

    def test_plans_are_not_beaten_and_no_warden_does_better(self):
        chance = random.Random(298)
        told = collections.Counter()
        for chart in list(spine_maps(40, 6, 8, 299)) + list(layered_maps(40, 5, 8, 300)):
            for threads in (1, 2):
                every = standings_of(chart, threads)
                plan = plan_warden(chart, 2, threads)
                for standing in chance.sample(every, min(6, len(every))):
                    number = bound(chart, 2, standing)
                    told[number] += 1
                    if number is not None:
                        self.assertIsNone(beaten(chart, 2, standing, plan, number))
                    for j in range(20 if number is None else number)[:3]:
                        warden = random_warden(chance, chart, 2, every)
                        for one in (plan, warden, ()):
                            self.shows(chart, 2, standing, one, j, beaten(chart, 2, standing, one, j))
        self.assertLessEqual({None, 0, 1, 2}, set(told))

    def test_large_maps(self):
        plan = plan_warden(FULL60, 4, 1)
        self.same(beaten(FULL60, 4, (0,), plan, 0), None)
        self.right(FULL60, 4, (0,), plan[1:], 20)
        spine = plan_warden(SPINE, 3, 1)
        self.same([beaten(SPINE, 3, (0,), spine, j) is None for j in (13, 14, 20)], [False, True, True])
        self.right(SPINE, 3, (0,), spine, 13)
        self.same(beaten(RING60, 0, (7,), (), 0), None)
        six = (6, tuple((a, b) for a in range(6) for b in range(6)), ())
        warden = tuple((standing, (standing[0],)) for standing in standings_of(six, 3))
        self.right(six, 1, (0, 1, 2), warden, 20)
        fifteen = (15, tuple((a, b) for a in range(15) for b in range(15)), (14,))
        self.right(fifteen, 8, (3, 4), plan_warden(fifteen, 8, 2), 20)
        self.right(fifteen, 8, (3, 4), (((3, 4), tuple(range(8))),), 20)

    def test_errors(self):
        def refused(error, what, k=2, standing=(0,), warden=(), j=0, chart=ANY):
            self.refused(error, what, beaten, chart, k, standing, warden, j)

        for j in (-1, 21, True, False, None, "1", (), 1.0):
            refused(BadNumber, j, j=j)
            refused(BadNumber, j, j=j, chart=FULL60, standing=(0, 0, 0))
            refused(BadWarden, -1, j=j, warden=[])
            refused(BadWarden, 0, j=j, warden=(((0,), (0, 1, 2)),))
            refused(BadStanding, 1, j=j, standing=(0, 3), warden=None)
            refused(BadNumber, 9, j=j, k=9, standing=(), warden=None)
            refused(BadMap, 0, j=j, k=9, standing=(), warden=None, chart=(1, (0,), ()))
        for k in NO_COUNTS:
            refused(BadNumber, k, k=k, standing=None, j=-1)
        for what, standing in NO_STANDINGS:
            refused(BadStanding, what, standing=standing, warden=None, j=-1)
        self.same(beaten(ANY, 2, (2,), (), 20), None)
        refused(BadStanding, 0, chart=EMPTY)

    def test_how_many_standings(self):
        for places, threads, count in ((16, 2, 256), (60, 2, 3600), (7, 3, 343), (60, 3, 216000)):
            chart = (places, (), ())
            self.refused(TooMany, count, beaten, chart, 0, (0,) * threads, (), 0)
            self.refused(BadNumber, 21, beaten, chart, 0, (0,) * threads, (), 21)
            self.refused(BadWarden, -1, beaten, chart, 0, (0,) * threads, None, 21)
        for places, threads in ((60, 1), (15, 2), (6, 3)):
            self.same(beaten((places, (), ()), 0, (0,) * threads, (), 0), None)

    def test_by_names(self):
        self.same(self.by_names(beaten, chart=SELF, k=1, standing=(0,), warden=(), j=0), (("lay", ()), ("go", 0, 0)))
