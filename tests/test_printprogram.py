from fewtraps.errors import BadProgram
from fewtraps.printprogram import print_program
from fewtraps.programs import is_program
from fewtraps.readprogram import read_program
from tests.cases import Case
from tests.runs import ECHO, EVERY, KINDS, some_programs
from tests.texts import printed, words_of_program

CELLS = {"put": 1, "sum": 3, "ask": 1, "go": 0, "same": 2, "less": 2, "switch": 1, "end": 0}


def cells_named(program):
    """Return the cells in the order in which the rows name them for the first time."""
    named = [c for row in program[2] for c in row[1:1 + CELLS[row[0]]]]
    return sorted(set(named), key=named.index)


def renumbered(program):
    """Return the program with its cells in the order in which they are named, and without those that are not."""
    named = cells_named(program)
    rows = tuple(row[:1] + tuple(named.index(c) for c in row[1:1 + CELLS[row[0]]]) + row[1 + CELLS[row[0]]:]
                 for row in program[2])
    return (tuple(program[0][c] for c in named), program[1], rows)


class TestPrintProgram(Case):
    def prints(self, program, text):
        self.same(print_program(program), text)
        self.same(read_program(text), program)

    def test_examples(self):
        self.prints(ECHO, "s: x = ask; if x = y go e; go s; e: y = x + x; go s")
        self.prints((("c",), ("a", ""), (("put", 0, 7), ("switch", 0, (0, 0)))), "a: c = 7; switch c a a")

    def test_each_kind_of_row(self):
        self.prints(EVERY, "s: a = 9; b2 = ask; t: c = a + b2; if c = b2 go u; c: if a < c go s; switch b2 t c t u; "
                           "go c; u: end")
        self.prints(((), ("",), (("end",),)), "end")
        self.prints(((), ("s",), (("go", 0),)), "s: go s")
        self.prints((("x",), ("x",), (("switch", 0, (0,)),)), "x: switch x x")
        for worth in range(10):
            self.prints((("x",), ("", ""), (("put", 0, worth), ("end",))), "x = " + str(worth) + "; end")

    def test_cells_in_another_order(self):
        for cells, rows in (("x", ()), ("xy", (("ask", 1), ("ask", 0))), ("xy", (("ask", 0),)), ("xy", (("ask", 1),)),
                            ("xy", (("sum", 1, 0, 0),)), ("xyz", (("sum", 0, 2, 1),)),
                            ("xyz", (("sum", 0, 1, 1), ("ask", 1))), ("xy", (("same", 1, 0, 0),)),
                            ("xy", (("less", 1, 0, 0),)), ("xy", (("less", 0, 0, 0),)),
                            ("xy", (("switch", 1, (0,)), ("ask", 0))), ("xy", (("put", 1, 0), ("put", 0, 1)))):
            program = (tuple(cells), ("s",) + ("",) * len(rows), rows + (("end",),))
            self.same(is_program(program), True)
            self.refused(BadProgram, -5, print_program, program)
            self.same(renumbered(program) == program, False)
            self.prints(renumbered(program), printed(words_of_program(program)))

    def test_no_programs(self):
        # These errors come ahead of the cells, which stand in another order here.
        cells, labels, rows = ("y", "x"), ("s", "", ""), (("ask", 1), ("ask", 0), ("go", 0))
        self.refused(BadProgram, -5, print_program, (cells, labels, rows))
        for what, thing in ((-1, None), (-1, (cells, labels)), (-1, "end"), (-2, (("y", "go"), labels, rows)),
                            (-2, (cells + ("x",), labels, rows)), (-3, (cells, labels, ())),
                            (-4, (cells, labels[:2], rows)), (0, (cells, labels, (("ask", 2),) + rows[1:])),
                            (2, (cells, labels, rows[:2] + (("go", 1),))),
                            (2, (cells, labels, rows[:2] + (("ask", 0),)))):
            self.refused(BadProgram, what, print_program, thing)

    def test_programs_read_again(self):
        kinds = set()
        refused = 0
        for program in list(some_programs(400, 1, 12, 471)) + list(some_programs(20, 55, 60, 472)):
            if cells_named(program) != list(range(len(program[0]))):
                refused += 1
                self.refused(BadProgram, -5, print_program, program)
                program = renumbered(program)
            self.prints(program, printed(words_of_program(program)))
            self.same(print_program(program), print_program(program))
            kinds |= {row[0] for row in program[2]}
        self.assertEqual(kinds, set(KINDS))
        self.assertGreater(refused, 50)

    def test_the_longest_texts(self):
        names = [letter + "z" * 11 for letter in "abcdefghijklmnopqrstuvwxyz"]
        labels = tuple(a[:1] + b for a in names[:3] for b in (name[:11] for name in names))[:60]
        rows = tuple(("switch", row % 8, (row, 59, 0, 30)) for row in range(60))
        program = (tuple(name[::-1] for name in ("1a", "2a", "3a", "4a", "5a", "6a", "7a", "8a")), labels, rows)
        self.prints(program, printed(words_of_program(program)))

    def test_by_names(self):
        self.same(self.by_names(print_program, program=((), ("s",), (("go", 0),))), "s: go s")
