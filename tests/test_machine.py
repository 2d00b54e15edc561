import copy
import random

from fewtraps.errors import BadInputs, BadProgram, BadStanding, BadThread, Ended
from fewtraps.machine import Machine
from tests.cases import Case
from tests.runs import ECHO, EVERY, PlainMachine, random_inputs, some_programs

# Values that are no number of a thread where there are two.
NO_THREADS = (2, 3, -1, True, False, None, "0", "", (), (0,), [], 0.0)


def told_by(machine):
    return (machine.at(), machine.cells(), machine.asked())


class TestMachine(Case):
    def test_example(self):
        machine = Machine(ECHO, (0,), ((5, 0),))
        self.same([machine.step(0), machine.step(0), machine.step(0), machine.step(0)], [1, 2, 0, 1])
        self.same((machine.at(), machine.cells(), machine.asked(), machine.next_place(0)), ((1,), (0, 0), (2,), 3))

    def steps(self, program, inputs, many):
        """Return what one thread comes to from row 0 on, and the machine behind it."""
        machine = Machine(program, (0,), (inputs,))
        return [machine.step(0) for _ in range(many)], machine

    def test_each_kind_of_row(self):
        came, machine = self.steps(EVERY, (4,), 3)
        self.same((came, machine.cells(), machine.asked()), ([1, 2, 3], (9, 4, 3), (1,)))
        # Row 3 asks whether 3 is 4, row 4 whether 9 is less than 3, and row 5 goes to the target of index 4 modulo 4.
        self.same([machine.step(0) for _ in range(3)], [4, 5, 2])
        came, machine = self.steps(EVERY, (7,), 6)
        self.same((came, machine.cells()), ([1, 2, 3, 4, 5, 7], (9, 7, 6)))
        self.refused(Ended, 0, machine.step, 0)
        came, machine = self.steps(EVERY, (0,), 6)
        self.same((came, machine.cells()), ([1, 2, 3, 4, 5, 2], (9, 0, 9)))

    def test_sums(self):
        for one in range(10):
            for other in range(10):
                rows = (("ask", 0), ("ask", 1), ("sum", 2, 0, 1), ("sum", 0, 0, 0), ("end",))
                machine = self.steps((("x", "y", "z"), ("",) * 5, rows), (one, other), 4)[1]
                self.same(machine.cells(), (2 * one % 10, other, (one + other) % 10))

    def test_same_and_less(self):
        for word, test in (("same", lambda a, b: a == b), ("less", lambda a, b: a < b)):
            rows = (("ask", 0), ("ask", 1), (word, 0, 1, 0), (word, 1, 1, 1), ("end",))
            for one in range(10):
                for other in range(10):
                    machine = self.steps((("x", "y"), ("s", "t", "", "", ""), rows), (one, other), 2)[1]
                    self.same(machine.next_place(0), 0 if test(one, other) else 3)
                    machine.step(0)
                    if not test(one, other):
                        self.same(machine.next_place(0), 1 if word == "same" else 4)
                    self.same(machine.cells(), (one, other))

    def test_switches(self):
        for many in range(1, 5):
            targets = (3, 2, 0, 1)[:many]
            rows = (("ask", 0), ("switch", 0, targets), ("end",), ("end",))
            for worth in range(10):
                machine = self.steps((("x",), ("a", "b", "c", "d"), rows), (worth,), 1)[1]
                self.same((machine.next_place(0), machine.step(0)), (targets[worth % many],) * 2)

    def test_inputs_that_run_out(self):
        rows = (("ask", 0), ("ask", 1), ("go", 0))
        came, machine = self.steps((("x", "y"), ("s", "", ""), rows), (3, 4, 5), 2)
        self.same(told_by(machine), ((2,), (3, 4), (2,)))
        self.same(([machine.step(0) for _ in range(3)], told_by(machine)), ([0, 1, 2], ((2,), (5, 0), (3,))))
        self.same(([machine.step(0) for _ in range(3)], told_by(machine)), ([0, 1, 2], ((2,), (0, 0), (3,))))

    def test_threads_share_the_cells_and_not_the_inputs(self):
        machine = Machine((("x",), ("s", ""), (("ask", 0), ("go", 0))), (0, 0, 1), ((1, 2), (), (9,)))
        told = []
        for i in (0, 1, 2, 2, 0, 0):
            machine.step(i)
            told.append((machine.cells(), machine.asked()))
        self.same(told, [((1,), (1, 0, 0)), ((0,), (1, 0, 0)), ((0,), (1, 0, 0)), ((9,), (1, 0, 1)), ((9,), (1, 0, 1)),
                         ((2,), (2, 0, 1))])
        self.same(machine.at(), (1, 1, 1))

    def test_against_a_plain_machine(self):
        chance = random.Random(431)
        ended = 0
        for program in list(some_programs(250, 1, 12, 432)) + list(some_programs(10, 50, 60, 433)):
            for threads in (1, 2, 3):
                starts = tuple(chance.randrange(len(program[2])) for _ in range(threads))
                inputs = random_inputs(chance, threads)
                machine, plain = Machine(program, starts, inputs), PlainMachine(program, starts, inputs)
                for _ in range(40):
                    self.same(told_by(machine), plain.told())
                    i = chance.randrange(threads)
                    ahead = plain.ahead(i)
                    if ahead is None:
                        ended += 1
                        self.refused(Ended, i, machine.next_place, i)
                        self.refused(Ended, i, machine.step, i)
                    else:
                        self.same((machine.next_place(i), machine.next_place(i)), (ahead, ahead))
                        self.same(told_by(machine), plain.told())
                        self.same(machine.step(i), plain.do(i))
                for found in told_by(machine):
                    self.assertIs(type(found), tuple)
                    self.plain(found)
        self.assertGreater(ended, 1000)

    def test_ended_threads(self):
        rows = (("end",), ("put", 0, 1), ("end",))
        machine = Machine((("x",), ("", "", ""), rows), (0, 1), ((), ()))
        for method in (machine.step, machine.next_place):
            self.refused(Ended, 0, method, 0)
        self.same((machine.step(1), told_by(machine)), (2, ((0, 2), (1,), (0, 0))))
        for i in (0, 1):
            self.refused(Ended, i, machine.step, i)
        for i in NO_THREADS:
            self.refused(BadThread, i, machine.step, i)
            self.refused(BadThread, i, machine.next_place, i)
        self.same(told_by(machine), ((0, 2), (1,), (0, 0)))

    def test_threads_that_are_not_there(self):
        machine = Machine(ECHO, (0, 3), ((1,), ()))
        before = told_by(machine)
        for i in NO_THREADS:
            self.refused(BadThread, i, machine.step, i)
            self.refused(BadThread, i, machine.next_place, i)
        self.same(told_by(machine), before)
        self.refused(BadThread, 1, Machine(ECHO, (0,), ((),)).step, 1)

    def test_no_standings(self):
        for what, thing in ((-1, None), (-1, 0), (-1, ()), (-1, [0]), (-1, (0, 0, 0, 0)), (0, (5,)), (0, (-1,)),
                            (0, (True,)),
                            (0, ("s",)), (1, (4, 5)), (1, (0, None)), (2, (0, 0, 60)), (0, (None, 7))):
            self.refused(BadStanding, what, Machine, ECHO, thing, ((),) * 3)
            self.refused(BadStanding, what, Machine, ECHO, thing, None)
        self.refused(BadStanding, 0, Machine, ((), ("",), (("end",),)), (1,), ((),))
        self.same(Machine(((), ("",), (("end",),)), (0, 0, 0), ((), (), ())).at(), (0, 0, 0))

    def test_inputs_that_do_not_fit(self):
        for thing in (None, 0, True, "", "00", [], [(), ()], (), ((),), ((), (), ()), {(), (1,)}):
            self.refused(BadInputs, -1, Machine, ECHO, (0, 0), thing)
        for entry in (None, 0, True, "", "12", [], [1], (10,), (-1,), (0, 10), (True,), (False,), ("1",), (None,),
                      ((1,),), (1.0,), (0,) * 201, (9,) * 1000):
            self.refused(BadInputs, 0, Machine, ECHO, (0, 0), (entry, ()))
            self.refused(BadInputs, 1, Machine, ECHO, (0, 0), ((9, 0), entry))
            self.refused(BadInputs, 0, Machine, ECHO, (0, 0), (entry, entry))
            self.refused(BadInputs, 2, Machine, ECHO, (0, 0, 4), ((), (1,), entry))

    def test_as_many_inputs_as_are_let(self):
        machine = Machine((("x",), ("s", ""), (("ask", 0), ("go", 0))), (0, 0), ((7,) * 200, tuple(range(10)) * 20))
        for _ in range(199):
            machine.step(0), machine.step(0)
        machine.step(0)
        self.same(told_by(machine), ((1, 0), (7,), (200, 0)))
        machine.step(0), machine.step(0)
        self.same(told_by(machine), ((1, 0), (0,), (200, 0)))

    def test_the_order_of_the_errors(self):
        self.refused(BadProgram, -1, Machine, None, None, None)
        self.refused(BadProgram, 4, Machine, ECHO[:2] + (ECHO[2][:4] + (("ask", 0),),), (9,), 0)
        self.refused(BadStanding, 0, Machine, ECHO, (9,), 0)
        self.refused(BadInputs, -1, Machine, ECHO, (4,), ((11,), (11,)))

    def test_two_machines(self):
        inputs = ((1, 2), (3,))
        one, other = Machine(ECHO, (0, 0), inputs), Machine(ECHO, (0, 0), inputs)
        before = told_by(other)
        kept = told_by(one)
        for i in (0, 0, 0, 0, 1, 1):
            one.step(i)
        self.same(told_by(other), before)
        self.same(kept, before)
        self.same(told_by(one), ((1, 2), (3, 0), (2, 1)))
        self.same(inputs, ((1, 2), (3,)))
        self.same(told_by(copy.deepcopy(one)), told_by(one))

    def test_by_names(self):
        one, other = Machine(ECHO, (0,), ((5,),)), Machine(inputs=((5,),), starts=(0,), program=ECHO)
        self.same(one.next_place(0), other.next_place(i=0))
        self.same(one.step(0), other.step(i=0))
        self.same(told_by(one), told_by(other))
