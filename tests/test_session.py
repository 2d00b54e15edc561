import copy
import itertools
import random

from fewtraps.bounds import bound, lay
from fewtraps.errors import BadMap, BadNumber, BadRoad, BadThread, BadWish, NoBound, Over, Running, TooMany, Unlike
from fewtraps.plays import most_idle, referee
from fewtraps.session import Session
from tests.cases import (
    CHAIN60, EMPTY, FULL60, NO_COUNTS, NO_MAPS, RING60, SELF, SIZES, SPINE, Case, M, M3, all_maps, layered_maps,
    some_maps, spine_maps, standings_of)
from tests.reckoning import Reckoning
from tests.runs import PlainSession, goes_from, plan_of, told_by

# M, and beside it a ring of place 8 with a road to the wished place 9.
TWO = (10, M[1] + ((8, 8), (8, 9)), (4, 5, 6, 7, 9))
# One trap is enough at place 0, but behind the wished place 1 it takes four.
OVER = (6, ((0, 0), (0, 1), (1, 1), (1, 2), (2, 2), (2, 3), (2, 4), (2, 5)), (1, 3, 4, 5))
# M3 with roads back from the places at which all threads would stay.
ROUND = (7, tuple(sorted(M3[1] + ((4, 0), (5, 0), (6, 0)))), M3[2])
# 0 is a wished place with a road to itself and one to 1, from which a road leads back.
BACK = (2, ((0, 0), (0, 1), (1, 0), (1, 1)), (0,))


# Goes of two threads from (0, 8), of each kind.
WAY = ((0, 1), (1, 8), (0, 2), (1, 9), (0, 4))


def sessions_from(chart, k, standings, plan):
    """Yield a session and a plain one for each of these standings that has a bound."""
    for standing in standings:
        if plan(chart, k, standing)[0] is not None:
            yield Session(chart, k, standing), PlainSession(chart, k, standing, plan)


class SessionCase(Case):
    def goes(self, session, plain, i, b):
        """Let both go, and expect the same of both."""
        event = plain.go(i, b)
        self.same(session.go(i, b), event)
        self.same(told_by(session), plain.told())
        self.assertTrue(b not in plain.chart[2] or event == "wished")

    def wanders(self, session, plain, chance, steps):
        """Let threads go anywhere, so many times or until none can go; return the events."""
        for _ in range(steps):
            goes = goes_from(plain.chart, plain.standing)
            if not goes or plain.number is None:
                break
            self.goes(session, plain, *chance.choice(goes))
        return self.refereed(session, plain)

    def refereed(self, session, plain):
        """Expect that the referee allows the play; return the events of the goes."""
        events, standing = referee(plain.chart, plain.k, plain.start, session.play())
        self.same((events, standing), (tuple(plain.events), session.at()))
        self.assertGreaterEqual(most_idle(events), session.idle())
        return [event for event in events if event != "lay"]


class TestSession(SessionCase):
    def test_example(self):
        session = Session(M, 2, (0,))
        self.same(told_by(session), ((0,), (0,), (2, 3), 0, 0, False, (("lay", (2, 3)),)))
        self.same(session.go(0, 1), "on")
        self.same(told_by(session)[:6], ((0,), (1,), (2, 3), 0, 0, False))
        self.same(session.go(0, 2), "idle")
        self.same(told_by(session)[:6], ((2,), (2,), (4, 5), 1, 0, False))
        self.same(session.go(0, 5), "wished")
        self.same(told_by(session), ((5,), (5,), (), 0, 1, False, (
            ("lay", (2, 3)), ("go", 0, 1), ("go", 0, 2), ("lay", (4, 5)), ("go", 0, 5), ("lay", ()))))

    def test_a_road_from_a_place_to_itself(self):
        session = Session(SELF, 1, (0,))
        self.same([session.go(0, 0), session.go(0, 0)], ["wished", "wished"])
        self.same(told_by(session), ((0,), (0,), (0,), 0, 2, False, (
            ("lay", (0,)), ("go", 0, 0), ("lay", (0,)), ("go", 0, 0), ("lay", (0,)))))
        session = Session(M, 2, (0,))
        self.same([session.go(0, 0), session.go(0, 0)], ["on", "on"])
        self.same((session.seen(), session.at(), session.traps(), session.idle()), ((0,), (0,), (2, 3), 0))

    def test_a_thread_that_stands_at_a_trap_when_it_is_laid(self):
        # Thread 1 stands at the wished place 0 from which the other one is walled off by just this place.
        session = Session(BACK, 1, (1, 0))
        self.same((session.traps(), session.at()), ((0,), (1, 0)))
        self.same([session.go(1, 1), session.go(0, 1), session.go(1, 0)], ["on", "on", "wished"])
        self.same((session.seen(), session.traps(), session.legs()), ((1, 0), (0,), 1))
        self.same([session.go(1, 0), session.go(0, 0)], ["wished", "wished"])
        self.same(told_by(session)[:6], ((0, 0), (0, 0), (0,), 0, 3, False))

    def test_behind_a_change(self):
        session = Session(M, 2, (0,))
        session.change(M, 4)
        self.same(told_by(session), ((0,), (0,), (4, 5, 6, 7), 0, 0, False, (("lay", (4, 5, 6, 7)),)))
        self.same([session.go(0, b) for b in (0, 1, 3, 7)], ["on", "on", "on", "wished"])
        session.change((8, M[1] + ((7, 0),), (1, 2)), 2)
        self.same(told_by(session), ((7,), (7,), (1,), 0, 1, False, (("lay", (1,)),)))
        self.same([session.go(0, 0), session.go(0, 1)], ["on", "wished"])
        self.same(told_by(session)[:6], ((1,), (1,), (1, 2), 0, 2, False))
        session.change(M, 2)
        self.same((session.traps(), session.go(0, 3)), ((2, 3), "idle"))
        session.change(M, 2)
        self.same(told_by(session), ((3,), (3,), (6, 7), 0, 2, False, (("lay", (6, 7)),)))

    def test_changes_let_while_the_threads_stand_still(self):
        session = Session(TWO, 3, (0, 8))
        self.same(session.traps(), (2, 3, 9))
        for _ in range(3):
            session.change(TWO, 5)
            session.change(TWO, 5)
            self.same(session.play(), (("lay", (4, 5, 6, 7, 9)),))
        self.same(session.go(1, 9), "wished")
        session.change(TWO, 2)
        self.same((session.traps(), session.go(0, 1)), ((2, 3), "on"))
        self.refused(Running, 0, session.change, TWO, 2)
        self.same(session.go(0, 2), "idle")
        session.change(TWO, 8)
        self.same((session.traps(), session.idle(), session.legs()), ((4, 5), 0, 1))
        self.same(session.go(0, 4), "wished")
        session.change(TWO, 0)
        self.same((session.traps(), session.legs(), session.over()), ((), 2, False))

    def test_running_behind_each_kind_of_go(self):
        session = Session(M3, 2, (0,))
        self.same(session.go(0, 1), "idle")
        session.change(M3, 2)
        self.same(session.go(0, 0), "wished")
        session.change(M3, 2)
        self.same([session.go(0, 2), session.go(0, 3)], ["idle", "idle"])
        session.change(M3, 2)
        self.same((session.idle(), session.legs(), session.traps()), (0, 1, (0, 6)))
        session.change(M3, 3)
        self.same((session.go(0, 0), session.traps()), ("wished", lay(M3, 3, (0,))))
        session = Session((3, ((0, 1), (1, 1), (1, 2)), (2,)), 1, (0,))
        self.same((session.go(0, 1), session.go(0, 1)), ("on", "on"))
        self.refused(Running, 0, session.change, (3, (), ()), 1)
        self.same(session.go(0, 2), "wished")
        session.change((3, (), ()), 1)


class TestOver(SessionCase):
    def over(self):
        """Return a session that is over."""
        session = Session(OVER, 2, (0, 0))
        self.same([session.go(1, 0), session.go(1, 1)], ["on", "wished"])
        return session

    def test_a_wished_stop_that_leaves_no_bound(self):
        self.same(told_by(self.over()), ((0, 1), (0, 1), (), 0, 1, True, (
            ("lay", (1,)), ("go", 1, 0), ("go", 1, 1), ("lay", ()))))

    def test_no_thread_goes(self):
        session = self.over()
        before = told_by(session)
        for i in (0, 1, 2, -1, True, "0", None):
            for b in (0, 1, 2, 5, 6, -1, True, "0", None):
                self.refused(Over, 0, session.go, i, b)
        self.same(told_by(session), before)

    def test_changes_while_over(self):
        session = self.over()
        before = told_by(session)
        self.refused(NoBound, 0, session.change, OVER, 2)
        self.refused(NoBound, 0, session.change, OVER, 0)
        self.refused(Unlike, 5, session.change, (5, (), ()), 2)
        self.same(told_by(session), before)
        self.refused(Over, 0, session.go, 0, 0)
        session.change(OVER, 4)
        self.same(told_by(session), ((0, 1), (0, 1), (1, 3, 4, 5), 0, 1, False, (("lay", (1, 3, 4, 5)),)))
        self.same([session.go(0, 0), session.go(1, 2), session.go(1, 5)], ["on", "on", "wished"])
        self.same((session.legs(), session.over(), session.traps()), (2, False, (1,)))
        session.change(OVER, 1)
        self.same((session.go(0, 1), session.over(), session.legs()), ("wished", True, 3))

    def test_idle_stops_are_counted_anew(self):
        # Place 4 has roads to the three other wished places, which are more than the two traps.
        session = Session((8, tuple(sorted(M[1] + ((4, 5), (4, 6), (4, 7)))), M[2]), 2, (0,))
        self.same([session.go(0, 1), session.go(0, 2), session.idle()], ["on", "idle", 1])
        self.same(session.go(0, 4), "wished")
        self.same(told_by(session), ((4,), (4,), (), 0, 1, True, (
            ("lay", (2, 3)), ("go", 0, 1), ("go", 0, 2), ("lay", (4, 5)), ("go", 0, 4), ("lay", ()))))


class TestRefused(SessionCase):
    def test_errors_of_the_map_k_and_the_standing(self):
        self.checks_arguments(Session, k=8)
        self.checks_size(Session, k=8)

    def test_the_order_of_the_errors(self):
        self.refused(BadMap, -1, Session, None, 9, None)
        self.refused(BadNumber, 9, Session, M, 9, None)
        crossing = (20, tuple((a, b) for a in range(10) for b in range(10, 20)), tuple(range(10, 20)))
        self.refused(NoBound, 0, Session, crossing, 8, (0, 0))
        larger = (21,) + crossing[1:]
        self.refused(TooMany, 441, Session, larger, 8, (0, 0))
        self.refused(NoBound, 0, Session, larger, 8, (0,))
        self.refused(TooMany, 8000, Session, crossing, 0, (19, 19, 19))

    def test_no_bound(self):
        for chart in some_maps(50, 2, 6, 411):
            for threads, k in itertools.product((1, 2, 3), range(4)):
                for standing in standings_of(chart, threads)[::7]:
                    if bound(chart, k, standing) is None:
                        self.refused(NoBound, 0, Session, chart, k, standing)
                    else:
                        self.same(Session(chart, k, standing).traps(), lay(chart, k, standing))

    def test_wrong_threads_and_places(self):
        session = Session(TWO, 3, (1, 8))
        self.same(session.go(1, 9), "wished")
        before = told_by(session)
        for i in (2, -1, True, False, None, "0", "", (), (0,), 0.0, 60, []):
            for b in (2, 9, None):
                self.refused(BadThread, i, session.go, i, b)
        for b in (0, 1, 4, 8, 9, 10, -1, 60, True, False, None, "2", "", (), (2,), [2], 2.0):
            self.refused(BadRoad, b, session.go, 0, b)
        for b in range(10):
            self.refused(BadRoad, b, session.go, 1, b)
        self.same(told_by(session), before)
        chart = (2, ((0, 0), (0, 1)), ())
        for b in (True, False):
            self.refused(BadRoad, b, Session(chart, 0, (0,)).go, 0, b)
        self.same(told_by(session), before)
        self.same(session.go(0, 2), "idle")

    def test_changes_refused_in_order(self):
        session = Session(TWO, 3, (0, 8))
        for go in ((), (0, 1), (0, 2)):
            running = go == (0, 1)
            if go:
                session.go(*go)
            before = told_by(session)
            for thing in NO_MAPS:
                with self.assertRaises((BadMap, BadWish)):
                    session.change(thing, 9)
            for k in NO_COUNTS:
                self.refused(BadNumber, k, session.change, TWO, k)
                self.refused(BadNumber, k, session.change, EMPTY, k)
            for chart in (EMPTY, SELF, (7, M[1][:5], (4,)), CHAIN60, FULL60):
                self.refused(Unlike, chart[0], session.change, chart, 2)
            for k in (0, 1):
                self.refused(Running if running else NoBound, 0, session.change, TWO, k)
            self.same(told_by(session), before)

    def test_changes_refused_by_the_size(self):
        for threads, most, size in SIZES:
            places = most + 1
            ring = ((0, 1), (1, 0))
            every = tuple(range(2, most))
            session = Session((places, ring, every), 2, (0,) * threads)
            self.refused(TooMany, size, session.change, (places, (), every), 2)
            # No bound comes behind the size, and running ahead of it.
            self.refused(TooMany, size, session.change, (places, ((0, most),), (most,)), 0)
            self.refused(NoBound, 0, session.change, (places, ring + ((1, 2),), every), 0)
            self.same((session.go(0, 1), session.traps()), ("on", ()))
            self.refused(Running, 0, session.change, (places, (), every), 2)
            self.same(session.play(), (("lay", ()), ("go", 0, 1)))


class TestGoing(SessionCase):
    def test_all_small_maps(self):
        events = set()
        for chart in itertools.chain(all_maps(1), all_maps(2)):
            plan = Reckoning(chart)
            plan_by = lambda _, k, standing: plan.plan(k, standing)
            for threads, k in itertools.product((1, 2), (0, 1, 2)):
                for session, plain in sessions_from(chart, k, standings_of(chart, threads), plan_by):
                    events |= self.each_go(session, plain, 3)
        self.assertEqual(events, {"on", "wished"})

    def each_go(self, session, plain, depth):
        """Let the threads go in all ways, so many times; return the events."""
        events = set(self.refereed(session, plain))
        if depth == 0 or plain.number is None:
            return events
        for i, b in goes_from(plain.chart, plain.standing):
            one, other = copy.deepcopy(session), copy.copy(plain)
            other.entries, other.events = list(plain.entries), list(plain.events)
            self.goes(one, other, i, b)
            events |= self.each_go(one, other, depth - 1)
        return events

    def test_against_a_plain_reckoning(self):
        chance = random.Random(412)
        told = set()
        charts = list(some_maps(60, 3, 6, 413)) + list(layered_maps(40, 4, 8, 414)) + list(spine_maps(20, 6, 8, 415))
        for chart in charts:
            reckoning = Reckoning(chart)
            plan_by = lambda _, k, standing: reckoning.plan(k, standing)
            for threads in (1, 2) if chart[0] > 6 else (1, 2, 3):
                k = chance.choice((1, 2, 2, 3))
                standings = chance.sample(standings_of(chart, threads), min(4, chart[0] ** threads))
                for session, plain in sessions_from(chart, k, standings, plan_by):
                    events = self.wanders(session, plain, chance, 25)
                    told |= {(threads, event) for event in events} | {(threads, plain.number is None)}
        self.assertLessEqual(set(itertools.product((1, 2, 3), ("on", "idle", "wished", True, False))), told)

    def test_larger_maps(self):
        chance = random.Random(416)
        most = 0
        for chart in list(layered_maps(30, 9, 14, 417)) + list(spine_maps(30, 10, 18, 418)) + [SPINE, CHAIN60]:
            for k in (2, 4):
                starts = [(0,), (chance.randrange(chart[0]),)] + standings_of(chart, 2)[:chart[0] <= 18]
                for session, plain in sessions_from(chart, k, starts, plan_of):
                    events = self.wanders(session, plain, chance, 40)
                    most = max([most] + [len(part) for part in "".join(event[0] for event in events).split("w")])
        self.assertGreater(most, 4)

    def test_as_many_idle_stops_as_are_promised(self):
        # Down the spine each stop at the next place is idle; the session keeps to what was promised at the beginning.
        session, plain = next(sessions_from(SPINE, 2, [(0,)], plan_of))
        promised = bound(SPINE, 2, (0,))
        while session.at()[0] < 29:
            self.goes(session, plain, 0, session.at()[0] + 1)
        self.same((session.idle(), promised), (28, 28))
        self.goes(session, plain, 0, 59)
        self.same(told_by(session)[:6], ((59,), (59,), (), 0, 1, False))

    def test_changes_on_the_way(self):
        chance = random.Random(419)
        done = set()
        charts = [chart for chart in some_maps(200, 4, 4, 420)]
        for first in charts[:60]:
            for threads, k in ((1, 1), (2, 2), (3, 2)):
                for session, plain in sessions_from(first, k, standings_of(first, threads)[::9], plan_of):
                    for _ in range(12):
                        self.wanders(session, plain, chance, chance.randrange(5))
                        chart, more = chance.choice(charts), chance.randrange(4)
                        done.add(self.changes(session, plain, chart, more))
        self.assertEqual(done, set(itertools.product((True, False), ("changed", "running", "no bound"))) - {
            (True, "running")})

    def changes(self, session, plain, chart, k):
        """Try to change both; return whether the session was over, and what came of it."""
        before = told_by(session)
        running = plain.events[-1] == "on"
        if running or plan_of(chart, k, plain.standing)[0] is None:
            self.refused(Running if running else NoBound, 0, session.change, chart, k)
            self.same(told_by(session), before)
            return before[5], "running" if running else "no bound"
        self.same(session.change(chart, k), None)
        plain.begin(chart, k)
        self.same(told_by(session), plain.told())
        self.same((session.legs(), session.idle(), session.at()), (before[4], 0, before[1]))
        return before[5], "changed"

    def test_long_sessions(self):
        chance = random.Random(421)
        for chart, k, standing in ((ROUND, 2, (0,)), (ROUND, 4, (3,)), (BACK, 1, (0, 1, 1)), (RING60, 0, (0, 20, 40))):
            session, plain = next(sessions_from(chart, k, [standing], plan_of))
            for _ in range(3000):
                i, b = chance.choice(goes_from(chart, plain.standing))
                self.same(session.go(i, b), plain.go(i, b))
            self.same(told_by(session), plain.told())
            events = self.refereed(session, plain)
            self.same((len(events), events.count("wished")), (3000, session.legs()))

    def test_maps_without_wished_places_and_with_wished_ones_only(self):
        session = Session((3, ((0, 1), (1, 2), (2, 0)), ()), 0, (0, 0, 1))
        self.same([session.go(i, b) for i, b in ((0, 1), (2, 2), (0, 2), (1, 1), (2, 0))], ["on"] * 5)
        self.same(told_by(session)[:6], ((0, 0, 1), (2, 1, 0), (), 0, 0, False))
        session = Session((3, ((0, 1), (1, 2), (2, 0)), (0, 1, 2)), 2, (0, 1))
        self.same((session.traps(), session.go(0, 1), session.traps()), ((1, 2), "wished", (2,)))
        self.same([session.go(1, 2), session.go(1, 0)], ["wished", "wished"])
        self.same(told_by(session)[:6], ((1, 0), (1, 0), (1, 2), 0, 3, False))
        session = Session((3, (), ()), 0, (2,))
        for b in range(3):
            self.refused(BadRoad, b, session.go, 0, b)
        session.change((3, ((2, 0),), (0,)), 1)
        self.same((session.go(0, 0), session.legs()), ("wished", 1))


class TestObjects(SessionCase):
    def test_two_sessions(self):
        one, other = Session(M, 2, (0,)), Session(M, 2, (0,))
        one.go(0, 1)
        one.go(0, 3)
        self.same(told_by(other), told_by(Session(M, 2, (0,))))
        other.change(M, 4)
        self.same(one.traps(), (6, 7))
        self.same(one.play(), (("lay", (2, 3)), ("go", 0, 1), ("go", 0, 3), ("lay", (6, 7))))

    def test_what_was_told_stays(self):
        chart = copy.deepcopy(TWO)
        session = Session(chart, 3, (0, 8))
        before = told_by(session)
        kept = copy.deepcopy(before)
        for i, b in WAY:
            session.go(i, b)
        session.change((10, (), ()), 0)
        self.same(before, kept)
        self.same(chart, TWO)

    def test_only_tuples(self):
        session = Session(TWO, 3, (0, 8))
        for i, b in WAY:
            session.go(i, b)
            for found in (session.seen(), session.at(), session.traps(), session.idle(), session.legs(),
                          session.over()):
                self.plain(found)
            self.same([type(entry) for entry in session.play()], [tuple] * len(session.play()))
            self.same(session.play(), session.play())
            self.assertIs(type(session.over()), bool)

    def test_by_names(self):
        one, other = Session(M, 2, (0,)), Session(standing=(0,), k=2, chart=M)
        self.same(told_by(one), told_by(other))
        self.same(one.go(0, 1), other.go(b=1, i=0))
        self.same(one.go(0, 2), other.go(b=2, i=0))
        self.same(one.change(M, 4), other.change(k=4, chart=M))
        self.same(told_by(one), told_by(other))
        self.refused(NoBound, 0, other.change, k=1, chart=M)
