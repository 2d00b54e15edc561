import random

from fewtraps.errors import BadCell, BadLot, BadProgram
from fewtraps.maps import is_map
from fewtraps.programs import is_program, made_program, map_of, roads_of, writes
from tests.cases import Case, some_lot
from tests.runs import ECHO, EVERY, KEPT, plain_roads, some_programs

DEEP = ()
for _ in range(20):
    DEEP = (DEEP, 0)

# Values of other kinds than those that may stand in a program, or than what is meant.
ODD = (None, True, False, -1, 10 ** 20, "", "go", "x", (), (0,), ("x",), ("end",), DEEP, [], ["end"])

LONG = (tuple("abcdefgh"), ("s",) + ("",) * 58 + ("t",),
        tuple(("switch", row % 8, (0, 59, 0, 59)) for row in range(59)) + (("go", 59),))

# Rows that fit between a row with the label t, which is number 1, and the last one, where the cells are x and y.
GOOD_ROWS = (
    ("put", 0, 0), ("put", 1, 9), ("sum", 0, 0, 0), ("sum", 1, 0, 1), ("ask", 0), ("ask", 1), ("go", 1),
    ("same", 0, 1, 1), ("same", 1, 1, 3), ("less", 0, 1, 1), ("less", 1, 1, 3), ("switch", 0, (1,)),
    ("switch", 1, (1, 3)), ("switch", 1, (3, 3, 3)), ("switch", 0, (1, 3, 3, 1)), ("end",),
)
BAD_ROWS = (
    # No tuple, no word, or an unknown one.
    None, True, 0, "", "end", "go", [], ["end"], ["put", 0, 0], (), (None,), (0,), (True, 0, 0), (("end",),), ("stop",),
    ("END",), ("end ",), ("",), ("if", 0, 1, 1), ("lay", ()), ("=", 0, 0), (["end"],), (DEEP, DEEP),
    # The wrong length.
    ("put", 0), ("put", 0, 0, 0), ("sum", 0, 0), ("sum", 0, 0, 0, 0), ("ask",), ("ask", 0, 0), ("go",), ("go", 1, 1),
    ("same", 0, 1), ("same", 0, 1, 1, 1), ("less", 0, 1), ("less", 0, 1, 1, 1), ("switch", 0), ("switch", 0, (1,), 1),
    ("switch",), ("end", 0), ("end", ()), ("put",), ("sum",), ("same",), ("less",),
    # Cells that are not there, in each place.
    ("put", 2, 0), ("put", -1, 0), ("put", True, 0), ("put", "x", 0), ("put", None, 0), ("sum", 2, 0, 0),
    ("sum", 0, 2, 0), ("sum", 0, 0, 2), ("sum", False, 0, 0), ("sum", 0, True, 0), ("sum", 0, 0, -1), ("ask", 2),
    ("ask", True), ("ask", -1), ("ask", (0,)), ("same", 2, 0, 1), ("same", 0, 2, 1), ("same", True, 0, 1),
    ("same", 0, False, 1), ("less", 2, 0, 1), ("less", 0, 2, 1), ("less", -1, 0, 1), ("less", 0, True, 1),
    ("switch", 2, (1,)), ("switch", True, (1,)), ("switch", -1, (1,)),
    # Worths.
    ("put", 0, 10), ("put", 0, -1), ("put", 0, True), ("put", 0, False), ("put", 0, "1"), ("put", 0, None),
    ("put", 0, (1,)), ("put", 0, 1.0),
    # Targets without a label, or that are not there.
    ("go", 0), ("go", 2), ("go", 4), ("go", 5), ("go", -1), ("go", -2), ("go", True), ("go", "t"), ("go", None),
    ("same", 0, 1, 0), ("same", 0, 1, 5), ("same", 0, 1, True), ("same", 0, 1, -4), ("less", 0, 1, 2),
    ("less", 0, 1, 5), ("less", 0, 1, True), ("less", 0, 1, None), ("switch", 0, (0,)), ("switch", 0, (1, 1, 1, 2)),
    ("switch", 0, (5,)), ("switch", 0, (-4,)), ("switch", 0, (True,)), ("switch", 0, (1, "t")), ("switch", 0, ()),
    ("switch", 0, (1,) * 5), ("switch", 0, [1]), ("switch", 0, 1), ("switch", 0, None), ("switch", 0, "t"),
    ("switch", 0, ((1,),)),
)


def program_with(row):
    """Return a program of five rows in which this one is number 2."""
    return (("x", "y"), ("", "t", "", "u", ""), (("end",), ("ask", 0), row, ("put", 0, 0), ("end",)))


class TestMadeProgram(Case):
    def made(self, thing):
        self.same(made_program(thing), thing)
        self.same(is_program(thing), True)

    def bad(self, what, thing):
        self.refused(BadProgram, what, made_program, thing)
        self.same(is_program(thing), False)

    def test_programs(self):
        self.made(ECHO)
        self.made(EVERY)
        self.made(LONG)
        self.made(((), ("",), (("end",),)))
        self.made(((), ("s",), (("go", 0),)))
        self.made((("s",), ("s",), (("switch", 0, (0, 0, 0, 0)),)))
        self.made((("a", "b"), ("b", "a"), (("ask", 0), ("go", 1))))
        self.made((("a" * 12,), ("z" * 12,), (("go", 0),)))
        self.made(((), ("",) * 60, (("end",),) * 60))
        for program in some_programs(300, 1, 12, 401):
            self.made(program)
        for program in some_programs(20, 55, 60, 402):
            self.made(program)

    def test_no_tuple_of_three(self):
        for thing in ODD + (("x", "y"), ECHO[:2], ECHO + ((),), list(ECHO), "abc", {0, 1, 2}):
            self.bad(-1, thing)

    def test_cells(self):
        rest = (("",), (("end",),))
        for cells in ODD + (("X",), ("1",), ("a", "a"), ("a", "b", "a"), ("a", 1), ("a", None), ("a" * 13,), ("",),
                            ("a b",), tuple("abcdefghi"), ["a"], {"a"}, "a", ("a", ("b",)), ("a", True)):
            if cells not in ((), ("x",)):
                self.bad(-2, (cells,) + rest)
        for word in KEPT:
            self.bad(-2, (("a", word),) + rest)
            self.made((("a", word + "1"),) + rest)
        self.made((tuple("abcdefgh"),) + rest)
        self.made(((),) + rest)

    def test_number_of_rows(self):
        for rows in ODD + ([("end",)], {("end",)}, "end"):
            if rows not in ((0,), ("x",), ("end",), DEEP):
                self.bad(-3, ((), ("",), rows))
        self.bad(-3, ((), (), ()))
        self.bad(-3, ((), ("",) * 61, (("end",),) * 61))
        self.made(((), ("",) * 60, (("end",),) * 60))

    def test_labels(self):
        rows = (("end",), ("end",), ("end",))
        for labels in ODD + (("", ""), ("", "", "", ""), ["", "", ""], ("a", "b", "a"), ("a", "a", ""), ("a", "", "A"),
                             ("a", "", 1), ("a", "", None), ("a", "", " "), ("a", "", "1"), ("", "", ("a",)),
                             ("", "", "a" * 13), (None, "", ""), (False, "", ""), (0, "", ""), "abc",
                       ("a", "b", "c d")):
            self.bad(-4, ((), labels, rows))
        for word in KEPT:
            self.bad(-4, ((), ("", word, ""), rows))
        for labels in (("", "", ""), ("a", "b", "c"), ("", "a", ""), ("a" * 12, "", "a" * 11)):
            self.made(((), labels, rows))

    def test_rows_that_fit(self):
        for row in GOOD_ROWS:
            self.made(program_with(row))

    def test_rows_that_do_not_fit(self):
        for row in BAD_ROWS + ODD:
            if row != ("end",):
                self.bad(2, program_with(row))
        for kind in ("put", "sum", "ask", "go", "same", "less", "switch"):
            good = [row for row in GOOD_ROWS if row[0] == kind][0]
            for at in range(1, len(good)):
                for thing in (None, True, False, "", "t", (), (1,), [], -1, 60, DEEP):
                    if not (kind == "switch" and at == 2 and thing == (1,)):
                        self.bad(2, program_with(good[:at] + (thing,) + good[at + 1:]))

    def test_targets_are_not_counted_from_the_end(self):
        for row in (("go", -1), ("same", 0, 0, -2), ("less", 0, 0, -1), ("switch", 0, (-1,)), ("switch", 0, (0, -2))):
            self.bad(0, (("x",), ("s", "t"), (row, ("go", 1))))
        self.bad(1, (("x",), ("s", "t"), (("end",), ("go", -1))))

    def test_programs_without_cells_or_labels(self):
        for row in GOOD_ROWS:
            cells, labels, rows = program_with(row)
            told = (("end",), ("end",), row, ("end",), ("end",))
            without_cells, without_labels = ((), labels, told), (cells, ("",) * 5, told)
            self.same(is_program(without_cells), row[0] in ("go", "end"))
            self.same(is_program(without_labels), row[0] in ("put", "sum", "ask", "end"))
            for program in (without_cells, without_labels):
                if not is_program(program):
                    self.bad(2, program)

    def test_the_last_row(self):
        for row in (("go", 0), ("go", 2), ("switch", 0, (0,)), ("switch", 1, (2, 0)), ("end",)):
            self.made((("x", "y"), ("s", "", "t"), (("ask", 0), ("ask", 1), row)))
        for row in (("put", 0, 0), ("sum", 0, 1, 0), ("ask", 0), ("same", 0, 1, 0), ("same", 0, 0, 2),
                    ("less", 0, 1, 0)):
            self.bad(2, (("x", "y"), ("s", "", "t"), (("ask", 0), ("ask", 1), row)))
            self.bad(2, (("x", "y"), ("s", "", "t"), (("end",), ("go", 0), row)))
        self.bad(0, (("x",), ("s",), (("ask", 0),)))
        self.bad(0, (("x",), ("s",), (("same", 0, 0, 0),)))
        self.bad(59, (("x",), ("s",) + ("",) * 59, (("end",),) * 59 + (("less", 0, 0, 0),)))

    def test_the_first_of_several_faults(self):
        good = {-2: ("x",), -4: ("", "s"), -3: (("end",), ("end",))}
        wrong = {-2: (("X",), None, ["x"]), -3: ((), [("end",)], 5), -4: (("s", "s"), [], ("",)), }
        for first, second in ((-2, -3), (-2, -4), (-3, -4)):
            for one in wrong[first]:
                for other in wrong[second]:
                    parts = dict(good)
                    parts[first], parts[second] = one, other
                    self.bad(first, (parts[-2], parts[-4], parts[-3]))
        for what, things in wrong.items():
            for thing in things:
                for rows in ((("end",), ("stop",)), (None, None), (("end",), ("ask", 0))):
                    parts = dict(good)
                    parts[-3] = rows
                    parts[what] = thing
                    self.bad(what, (parts[-2], parts[-4], parts[-3]))
        self.bad(1, ((), ("", "", "", ""), (("end",), ("go", 0), ("stop",), ("ask", 0))))
        self.bad(2, (("x",), ("", "", "", ""), (("end",), ("end",), ("stop",), ("ask", 0))))
        self.bad(3, (("x",), ("", "", "", ""), (("end",), ("end",), ("end",), ("ask", 0))))
        self.bad(1, (("x",), ("", ""), (("ask", 0), ("ask", 1))))

    def test_nested_values(self):
        for thing in ODD:
            for at in range(3):
                self.same(is_program(EVERY[:at] + (thing,) + EVERY[at + 1:]), False)
                for inner in range(len(EVERY[at])):
                    program = EVERY[:at] + (EVERY[at][:inner] + (thing,) + EVERY[at][inner + 1:],) + EVERY[at + 1:]
                    # A row may be told to be an end, and a label may be taken away where no row names it.
                    fits = (at == 2 and thing == ("end",)) or (at == 0 and thing == "x") or (
                        at == 1 and (thing == "x" or (thing == "" and inner not in (0, 2, 4, 7))))
                    self.same(is_program(program), fits)


class TestRoads(Case):
    def test_examples(self):
        self.same(roads_of(ECHO), ((0, 1), (1, 2), (1, 3), (2, 0), (3, 4), (4, 0)))
        self.same(writes(ECHO, 1), (3,))
        self.same(map_of(ECHO, (3,)), (5, ((0, 1), (1, 2), (1, 3), (2, 0), (3, 4), (4, 0)), (3,)))

    def test_each_kind_of_row(self):
        self.same(roads_of(EVERY), (
            (0, 1), (1, 2), (2, 3), (3, 4), (3, 7), (4, 0), (4, 5), (5, 2), (5, 4), (5, 7), (6, 4)))
        self.same([writes(EVERY, c) for c in range(3)], [(0,), (1,), (2,)])

    def test_whatever_the_cells_hold(self):
        for word in ("same", "less"):
            self.same(roads_of((("x",), ("", "", "t"), ((word, 0, 0, 2), ("end",), ("end",)))), ((0, 1), (0, 2)))
            # A jump to the next row, and one to the row itself.
            self.same(roads_of((("x",), ("", "t"), ((word, 0, 0, 1), ("end",)))), ((0, 1),))
            self.same(roads_of((("x",), ("t", ""), ((word, 0, 0, 0), ("end",)))), ((0, 0), (0, 1)))
        self.same(roads_of((("x",), ("t",), (("switch", 0, (0, 0)),))), ((0, 0),))
        self.same(roads_of(((), ("t",), (("go", 0),))), ((0, 0),))
        self.same(roads_of(((), ("",), (("end",),))), ())
        self.same(roads_of(((), ("", "t"), (("go", 1), ("end",)))), ((0, 1),))

    def test_as_many_roads_as_there_can_be(self):
        labels = tuple("t" + str(row) for row in range(60))
        rows = tuple(("switch", 0, tuple((row + step) % 60 for step in (5, 1, 9, 0))) for row in range(60))
        chart = map_of((("x",), labels, rows), tuple(range(60)))
        self.same(is_map(chart), True)
        self.same((len(chart[1]), len(chart[2])), (240, 60))

    def test_against_the_table(self):
        chance = random.Random(403)
        for program in list(some_programs(300, 1, 14, 404)) + list(some_programs(10, 60, 60, 405)):
            rows = program[2]
            self.same(self.plain(roads_of(program)), plain_roads(program))
            wished = some_lot(chance, range(len(rows)))
            self.same(self.plain(map_of(program, wished)), (len(rows), plain_roads(program), wished))
            self.same(is_map(map_of(program, wished)), True)
            for c in range(len(program[0])):
                self.same(writes(program, c), tuple(
                    at for at, row in enumerate(rows) if row[:2] in (("put", c), ("sum", c), ("ask", c))))

    def test_writes_looks_at_the_first_cell_only(self):
        rows = (("sum", 0, 1, 1), ("same", 1, 1, 0), ("less", 1, 1, 0), ("switch", 1, (0,)), ("put", 1, 0), ("ask", 0),
                ("end",))
        program = (("x", "y", "z"), ("s",) + ("",) * 6, rows)
        self.same([writes(program, c) for c in range(3)], [(0, 5), (4,), ()])

    def test_no_programs(self):
        for what, thing in ((-1, None), (-1, ECHO[:2]), (-2, (("go",),) + ECHO[1:]), (-3, ECHO[:2] + ((),)),
                            (-4, (ECHO[0], ("s",), ECHO[2])), (1, (ECHO[0], ("s", "", "", "", ""), ECHO[2])),
                            (4, ECHO[:2] + (ECHO[2][:4] + (("ask", 0),),))):
            self.refused(BadProgram, what, roads_of, thing)
            self.refused(BadProgram, what, map_of, thing, (0,))
            self.refused(BadProgram, what, map_of, thing, None)
            self.refused(BadProgram, what, writes, thing, 0)
            self.refused(BadProgram, what, writes, thing, None)

    def test_lots_that_are_none(self):
        for lot in (None, 0, True, "", "s", [], [0], (5,), (-1,), (1, 0), (1, 1), (0, 1, 5), (True,), (False,), ("s",),
                    (None,), ((0,),), (0, (1,)), {0}, (0.0,)):
            self.refused(BadLot, -1, map_of, ECHO, lot)
        for lot in ((), (0,), (4,), (0, 1, 2, 3, 4)):
            self.same(map_of(ECHO, lot)[2], lot)

    def test_cells_that_are_not_there(self):
        for c in (-1, 2, 8, 60, True, False, None, "x", "", "0", (), (0,), [], 0.0):
            self.refused(BadCell, c, writes, ECHO, c)
        self.refused(BadCell, 0, writes, ((), ("",), (("end",),)), 0)
        self.refused(BadCell, 8, writes, LONG, 8)
        self.same(writes(LONG, 7), ())

    def test_by_names(self):
        self.same(self.by_names(made_program, thing=ECHO), ECHO)
        self.same(self.by_names(is_program, thing=ECHO), True)
        self.same(self.by_names(roads_of, program=ECHO), plain_roads(ECHO))
        self.same(self.by_names(map_of, program=ECHO, wished=(1, 3)), (5, plain_roads(ECHO), (1, 3)))
        self.same(self.by_names(writes, program=ECHO, c=0), (0,))
