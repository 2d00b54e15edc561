"""The parts of the package at work together."""

import random

from fewtraps.bounds import bound, curve, lay
from fewtraps.books import book, floor
from fewtraps.debugger import Debugger
from fewtraps.desk import Desk
from fewtraps.edits import with_wish, without_wish
from fewtraps.enough import endless, enough
from fewtraps.kernel import book_right, endless_right, floor_right, unsafe_right
from fewtraps.maptexts import print_map, read_map
from fewtraps.never import safe, unsafe
from fewtraps.own import own_bound
from fewtraps.pieces import pieces
from fewtraps.plays import most_idle, referee
from fewtraps.playtexts import print_play, read_play
from fewtraps.printprogram import print_program
from fewtraps.programs import made_program, map_of
from fewtraps.readprogram import read_program
from fewtraps.session import Session
from fewtraps.wardens import beaten, is_warden, plan_warden
from tests.cases import M3, Case, layered_maps, some_maps, spine_maps
from tests.runs import forward_programs, goes_from, plan_of, random_inputs

# A thread reads a number and counts down from it; the row behind `more` is reached by the switch alone.
TEXT = ("go begin; more: n = n + nine; begin: n = ask; nine = 9; loop: if n = zero go out; n = n + nine; "
        "switch n loop loop more loop; out: x = ask; if x < nine go loop; end")


class WholeCase(Case):
    def played(self, chart, k, standing, session):
        """Expect that the play reads again as it is printed, and is what the referee makes of it."""
        play = read_play(print_play(session.play()))
        self.same(play, session.play())
        events, behind = referee(chart, k, standing, play)
        self.same(behind, session.at())
        self.assertGreaterEqual(most_idle(events), session.idle())
        self.assertNotIn("miss", events)


class TestPrograms(WholeCase):
    def test_a_text_a_desk_and_a_debugger(self):
        program = made_program(read_program(TEXT))
        self.same(print_program(program), TEXT)
        desk = Desk(program, 3)
        for text in ("ann wish out", "bob wish more", "ann wish 9", "ann undo"):
            self.same(desk.row(text), "ok")
        self.same((desk.wished(), desk.row("wished")), ((1, 7), "more out"))
        debugger = Debugger(program, desk.wished(), 3, (0, 0), ((5, 3, 9), (2,)))
        self.beside(desk, debugger)
        words = ()
        for _ in range(60):
            words += debugger.run((0, 1, 1))
            self.beside(desk, debugger)
        self.same(set(words) >= {"on", "wished"}, True)

    def beside(self, desk, debugger):
        """Expect that the debugger's traps are those that the desk tells for where it saw the threads."""
        seen, k = debugger.seen(), 3
        self.same(debugger.over(), bound(desk.map(), k, seen) is None)
        self.same(debugger.traps(), lay(desk.map(), k, seen) or ())
        row = " ".join(str(place) for place in seen)
        labels = [desk.program[1][place] or str(place) for place in debugger.traps()]
        self.same(desk.row("lay " + row), "none" if debugger.over() else " ".join(labels) or "nothing")
        self.same(desk.row("bound " + row), str(bound(desk.map(), k, seen)).lower())

    def test_random_programs(self):
        chance = random.Random(511)
        stops = 0
        for program, wished in forward_programs(60, 512):
            text = print_program(program) if self.is_printed(program) else None
            self.same(text is None or read_program(text) == program, True)
            for k in (1, 2, 3):
                desk = Desk(program, k)
                for at, place in enumerate(wished):
                    desk.wish("ab"[at % 2], place)
                self.same(desk.map(), map_of(program, wished))
                starts = (0,) * chance.choice((1, 1, 2))
                if desk.row("bound " + "0 " * len(starts)) in ("none", "refused TooMany"):
                    continue
                debugger = Debugger(program, desk.wished(), k, starts, random_inputs(chance, len(starts)))
                words = debugger.run(tuple(chance.randrange(len(starts)) for _ in range(100)))
                stops += words.count("idle") + words.count("wished")
                self.same(debugger.legs(), words.count("wished"))
                self.played(desk.map(), k, starts, debugger)
        self.assertGreater(stops, 100)

    def is_printed(self, program):
        try:
            return bool(print_program(program))
        except ValueError:
            return False


class TestMaps(WholeCase):
    def charts(self):
        charts = [M3] + list(some_maps(30, 3, 8, 513)) + list(layered_maps(20, 5, 9, 514))
        return charts + list(spine_maps(10, 6, 12, 515))

    def test_papers_of_a_map_that_was_read(self):
        told = set()
        for chart in self.charts():
            chart = read_map(print_map(chart))
            for standing in ((0,), (chart[0] - 1,), (0, 1)):
                for k in range(4):
                    number = bound(chart, k, standing)
                    self.same(curve(chart, standing)[k], number)
                    self.same(number is None, enough(chart, standing) > k)
                    told.add(number)
                    if number is None:
                        self.same(endless_right(chart, k, standing, endless(chart, k, standing)), True)
                    else:
                        self.same(book_right(chart, k, standing, book(chart, k, standing)), True)
                        self.same(floor_right(chart, k, standing, floor(chart, k, standing)), True)
                        self.same(endless(chart, k, standing), None)
                    self.plan(chart, k, standing, number)
        self.assertLessEqual({None, 0, 1, 2}, told)

    def plan(self, chart, k, standing, number):
        """Expect that the plan is beaten if and only if fewer idle stops are wanted than can be promised."""
        plan = plan_warden(chart, k, len(standing))
        self.same(is_warden(chart, k, plan), True)
        self.same(dict(plan).get(standing), lay(chart, k, standing))
        if number is None:
            self.same(beaten(chart, k, standing, plan, 3) is None, False)
            return
        self.same(beaten(chart, k, standing, plan, number), None)
        if number > 0:
            play = beaten(chart, k, standing, plan, number - 1)
            self.same(read_play(print_play(play)), play)
            self.same(most_idle(referee(chart, k, standing, play)[0]), number)

    def test_sessions_of_a_map_that_was_read(self):
        chance = random.Random(516)
        for chart in self.charts():
            for k, standing in ((1, (0,)), (2, (0,)), (2, (0, 1)), (4, (1, 0))):
                number, traps = plan_of(chart, k, standing)
                if number is None:
                    continue
                session = Session(read_map(print_map(chart)), k, standing)
                self.same(session.traps(), traps)
                while len(session.play()) < 40 and not session.over() and goes_from(chart, session.at()):
                    session.go(*chance.choice(goes_from(chart, session.at())))
                self.played(chart, k, standing, session)

    def test_one_thread(self):
        for chart in self.charts():
            for k in range(3):
                for a in range(chart[0]):
                    self.same(unsafe_right(chart, k, a, unsafe(chart, k, a)), not safe(chart, k, a))
                    self.same(own_bound(chart, k, (a,)), bound(chart, k, (a,)))
                    if bound(chart, k, (a,)) is not None:
                        self.same(safe(chart, k, a), True)

    def test_wishes_of_a_desk_and_changes_of_a_session(self):
        # Each wish is a change of the session at the same place, which stands still.
        for program, wished in forward_programs(25, 517):
            desk = Desk(program, 8)
            session = Session(desk.map(), 8, (0,))
            for place in range(len(program[2])):
                desk.wish("ann", place)
                self.same(desk.map(), with_wish(map_of(program, desk.wished()[:-1]), place))
                self.same(without_wish(desk.map(), place), map_of(program, tuple(range(place))))
                if bound(desk.map(), 8, (0,)) is not None:
                    session.change(desk.map(), 8)
                    self.same(session.traps(), lay(desk.map(), 8, (0,)))
            self.same(pieces(desk.map()), ())
            self.same(desk.row("pieces"), "nothing")
