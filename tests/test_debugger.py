import random

from fewtraps.bounds import bound
from fewtraps.debugger import Debugger
from fewtraps.errors import (
    BadInputs, BadLot, BadNumber, BadProgram, BadStanding, BadThread, BadWeave, Ended, NoBound, Over, TooMany)
from fewtraps.machine import Machine
from fewtraps.plays import most_idle, referee
from fewtraps.programs import map_of, writes
from tests.cases import NO_COUNTS, Case, some_lot
from tests.runs import (
    ECHO, EVERY, PlainMachine, PlainSession, forward_programs, plan_of, random_inputs, some_programs, told_by)

# Row 1 leads to the wished row 2, behind which a thread is in a ring with two wished rows, or ends.
LEAVING = (("x",), ("s", "", "t", "u", "v"),
           (("ask", 0), ("switch", 0, (0, 2)), ("switch", 0, (3, 4, 2)), ("go", 2), ("go", 2)))


class PlainDebugger:
    """A debugger by [13.3] and [13.4]."""

    def __init__(self, program, wished, k, starts, inputs):
        self.machine = PlainMachine(program, starts, inputs)
        self.session = PlainSession(map_of(program, wished), k, starts, plan_of)

    def word(self, i):
        if self.session.number is None:
            return "over"
        if self.machine.ahead(i) is None:
            return "ended"
        return self.session.go(i, self.machine.do(i))


class TestDebugger(Case):
    def test_example(self):
        debugger = Debugger(ECHO, (3,), 1, (0,), ((5, 0),))
        self.same(debugger.traps(), (3,))
        self.same(debugger.run((0, 0, 0, 0, 0, 0, 0)), ("on", "on", "on", "on", "wished", "on", "on"))
        self.same((debugger.at(), debugger.cells(), debugger.seen(), debugger.legs()), ((0,), (0, 0), (3,), 1))

    def told(self, debugger):
        return told_by(debugger) + (debugger.cells(),)

    def tries(self, seed):
        """Yield arguments for debuggers that can be made, with as few traps as can be, and a source of chance."""
        chance = random.Random(seed)
        programs = some_programs(100, 1, 9, seed + 1)
        programs = [(program, some_lot(chance, range(len(program[2])))) for program in programs]
        for program, wished in programs + list(forward_programs(100, seed + 2)):
            rows = len(program[2])
            for threads in (1, 2, 3):
                starts = tuple(chance.randrange(rows) for _ in range(threads))
                for k in range(9) if rows ** threads <= 400 else ():
                    if bound(map_of(program, wished), k, starts) is not None:
                        yield (program, wished, k, starts, random_inputs(chance, threads)), chance
                        break

    def test_against_a_plain_debugger(self):
        words = set()
        for arguments, chance in self.tries(441):
            one, other, plain = Debugger(*arguments), Debugger(*arguments), PlainDebugger(*arguments)
            weave = tuple(chance.randrange(len(arguments[3])) for _ in range(50))
            found = ()
            while len(found) < 50:
                part = weave[len(found):len(found) + chance.randrange(1, 20)]
                expected = tuple(plain.word(i) for i in part)
                self.same(one.run(part), expected)
                self.same([self.stepped(other, i) for i in part], list(expected))
                for debugger in (one, other):
                    self.same(self.told(debugger), plain.session.told() + (plain.machine.told()[1],))
                found += expected
            self.same(Debugger(*arguments).run(weave), found)
            events, standing = referee(map_of(*arguments[:2]), arguments[2], arguments[3], one.play())
            self.same((events, standing), (tuple(plain.session.events), one.at()))
            self.assertGreaterEqual(most_idle(events), one.idle())
            words |= set(found)
        self.assertEqual(words, {"on", "idle", "wished", "over", "ended"})

    def stepped(self, debugger, i):
        """Return the word for a step, from the errors where there are some."""
        before = self.told(debugger)
        try:
            return debugger.step(i)
        except Over:
            word = "over"
        except Ended as error:
            self.same(error.what, i)
            word = "ended"
        self.same(self.told(debugger), before)
        return word

    def test_no_wished_row_is_missed(self):
        stops = 0
        for (program, wished, k, starts, inputs), chance in self.tries(444):
            debugger = Debugger(program, wished, k, starts, inputs)
            machine = Machine(program, starts, inputs)
            promised, idle = bound(map_of(program, wished), k, starts), 0
            for i in [chance.randrange(len(starts)) for _ in range(50)]:
                word, = debugger.run((i,))
                if word in ("over", "ended"):
                    continue
                came = machine.step(i)
                self.same(word == "wished", came in wished)
                self.same((debugger.at(), debugger.cells()), (machine.at(), machine.cells()))
                idle += word == "idle"
                self.assertLessEqual(idle, promised)
                if word == "wished":
                    stops += 1
                    promised, idle = bound(map_of(program, wished), k, debugger.at()), 0
                    self.same(debugger.over(), promised is None)
                self.same(debugger.idle(), idle)
        self.assertGreater(stops, 500)

    def test_rows_that_write_a_cell(self):
        changes = 0
        for program in some_programs(200, 3, 9, 445, ("put", "sum", "ask", "ask", "go", "less", "switch")):
            for c in range(len(program[0])):
                # The threads stand behind a row when it has been done, so the rows ahead are wished.
                wished = writes(program, c)
                chance = random.Random(c)
                for threads in (1, 2):
                    starts, inputs = (0,) * threads, random_inputs(chance, threads)
                    if bound(map_of(program, wished), 8, starts) is None:
                        continue
                    debugger = Debugger(program, wished, 8, starts, inputs)
                    stopped = set(i for i in range(threads) if 0 in wished)
                    for i in [chance.randrange(threads) for _ in range(40)]:
                        before = debugger.cells()[c]
                        word, = debugger.run((i,))
                        if debugger.cells()[c] != before:
                            changes += 1
                            self.assertIn(i, stopped)
                        if word in ("on", "idle", "wished"):
                            stopped.discard(i)
                            stopped |= {i} if word == "wished" else set()
        self.assertGreater(changes, 300)

    def test_a_thread_that_begins_at_a_wished_row(self):
        debugger = Debugger(ECHO, (0, 3), 2, (3,), ((),))
        self.same(self.told(debugger), ((3,), (3,), (0,), 0, 0, False, (("lay", (0,)),), (0, 0)))
        self.same((debugger.step(0), debugger.step(0)), ("on", "wished"))
        self.same((debugger.at(), debugger.seen(), debugger.legs()), ((0,), (0,), 1))
        both = Debugger(ECHO, (3,), 1, (3, 0), ((), ()))
        self.same(both.run((0, 0, 1, 1)), ("on", "on", "on", "wished"))
        self.same((both.at(), both.seen()), ((0, 3), (0, 3)))
        ring = Debugger((("x",), ("s",), (("go", 0),)), (0,), 1, (0,), ((),))
        self.same((ring.run((0, 0)), ring.legs()), (("wished", "wished"), 2))

    def test_over(self):
        debugger = Debugger(LEAVING, (2, 3, 4), 1, (0, 0), ((1,), (0, 3)))
        self.same(debugger.traps(), (2,))
        self.same(debugger.run((1, 0, 0, 1, 0)), ("on", "on", "wished", "over", "over"))
        before = self.told(debugger)
        for i in (0, 1, 2, -1, True, None, "0"):
            self.refused(Over, 0, debugger.step, i)
        self.same(debugger.run((1, 0, 0, 1)), ("over",) * 4)
        self.refused(BadWeave, 2, debugger.run, (0, 1, 2))
        self.same(self.told(debugger), before)
        self.same((debugger.over(), debugger.traps(), debugger.idle(), debugger.play()[-1]), (True, (), 0, ("lay", ())))

    def test_ended(self):
        program = (("x",), ("", "", ""), (("ask", 0), ("put", 0, 1), ("end",)))
        debugger = Debugger(program, (2,), 1, (0, 1), ((4,), ()))
        self.same(debugger.run((1, 1, 0)), ("wished", "ended", "on"))
        before = self.told(debugger)
        self.refused(Ended, 1, debugger.step, 1)
        for i in (2, -1, True, False, None, "1", (), (1,), [], 1.0):
            self.refused(BadThread, i, debugger.step, i)
        self.same(self.told(debugger), before)
        self.same(debugger.run((0, 0, 1, 0)), ("wished", "ended", "ended", "ended"))
        self.same((debugger.at(), debugger.legs(), debugger.over()), ((2, 2), 2, False))

    def test_weaves_that_are_none(self):
        debugger = Debugger(ECHO, (3,), 1, (0, 0), ((5,), ()))
        before = self.told(debugger)
        for thing in (None, 0, True, "", "01", [], [0], {0, 1}, (0,) * 401, (7,) * 500):
            self.refused(BadWeave, -1, debugger.run, thing)
        for i in (2, -1, True, False, None, "0", (), (0,), [], 0.0):
            self.refused(BadWeave, 0, debugger.run, (i,))
            self.refused(BadWeave, 0, debugger.run, (i, 9))
            self.refused(BadWeave, 3, debugger.run, (0, 1, 0, i, 1))
            self.refused(BadWeave, 399, debugger.run, (0, 1) * 199 + (1, i))
        self.same(self.told(debugger), before)
        self.same(debugger.run(()), ())
        self.same(self.told(debugger), before)
        plain = PlainDebugger(ECHO, (3,), 1, (0, 0), ((5,), ()))
        self.same(debugger.run((0, 1) * 200), tuple(plain.word(i) for i in (0, 1) * 200))
        self.same(len(debugger.play()), 401 + debugger.legs())

    def test_the_order_of_the_errors(self):
        two_ends = (("x",), ("", "", "t"), (("less", 0, 0, 2), ("end",), ("end",)))
        good = (two_ends, (1, 2), 1, (0,), ((),))
        wrong = ((BadProgram, -1, None), (BadLot, -1, (2, 1)), (BadNumber, 9, 9), (BadStanding, 0, (3,)),
                 (BadInputs, -1, ()))
        for at, (error, what, thing) in enumerate(wrong):
            self.refused(error, what, Debugger, *good[:at] + tuple(wrong[n][2] for n in range(at, 5)))
            self.refused(error, what, Debugger, *good[:at] + (thing,) + good[at + 1:])
        self.refused(NoBound, 0, Debugger, *good)
        self.refused(BadInputs, 0, Debugger, *good[:4] + (((10,),),))
        for k in NO_COUNTS:
            self.refused(BadNumber, k, Debugger, two_ends, (1, 2), k, None, None)
        for thing in (None, (), (0, 0, 0, 0), [0]):
            self.refused(BadStanding, -1, Debugger, two_ends, (), 0, thing, None)

    def test_sizes(self):
        for threads, most, size in ((2, 20, 441), (3, 7, 512)):
            rows = tuple(("switch", 0, (row + 1, most - 1)) for row in range(most - 1))
            labels = tuple("t" + str(row) for row in range(most + 1))
            program = (("x",), labels[:most], rows + (("end",),))
            starts, inputs = (0,) * threads, ((),) * threads
            self.refused(NoBound, 0, Debugger, program, (most - 1,), 0, starts, inputs)
            self.same(Debugger(program, (most - 1,), 1, starts, inputs).traps(), (most - 1,))
            larger = (("x",), labels, rows + (("go", most), ("end",)))
            self.refused(TooMany, size, Debugger, larger, (most - 1,), 0, starts, inputs)
            self.refused(BadInputs, 0, Debugger, larger, (most - 1,), 0, starts, (None,) + inputs[1:])
            self.same(Debugger(larger, (most - 1,), 1, (0,), ((),)).traps(), (most - 1,))

    def test_no_rows_and_all_rows_wished(self):
        debugger = Debugger(EVERY, (), 0, (0, 6), ((4,), ()))
        self.same(debugger.run((0, 0, 1, 0)), ("on",) * 4)
        self.same((debugger.traps(), debugger.cells()), ((), (9, 4, 3)))
        every = Debugger(EVERY, tuple(range(8)), 8, (0, 6), ((4,), ()))
        self.same((every.traps(), every.run((0, 0, 1, 0))), ((1, 4), ("wished",) * 4))
        self.same((every.legs(), every.cells(), every.traps()), (4, (9, 4, 3), (0, 4, 5, 7)))

    def test_two_debuggers(self):
        one, other = (Debugger(ECHO, (3,), 1, (0, 0), ((5,), (6,))) for _ in range(2))
        before = self.told(other)
        kept = self.told(one)
        one.run((0, 1, 0, 0, 0, 0, 0, 0, 1))
        self.same(self.told(other), before)
        self.same(kept, before)
        for found in self.told(one)[:6] + (one.cells(), one.at()):
            self.plain(found)
        self.assertIs(type(one.run((0,))), tuple)

    def test_by_names(self):
        one = Debugger(ECHO, (3,), 1, (0,), ((5,),))
        other = Debugger(inputs=((5,),), starts=(0,), k=1, wished=(3,), program=ECHO)
        self.same(one.step(0), other.step(i=0))
        self.same(one.run((0, 0)), other.run(weave=(0, 0)))
        self.same(self.told(one), self.told(other))
