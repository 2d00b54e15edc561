"""Plain machines, plain sessions and programs, straight from the words of the document, to compare the program with."""

import random

from fewtraps.bounds import bound, lay

# The program of [13.5], and one with each kind of row.
ECHO = (("x", "y"), ("s", "", "", "e", ""),
        (("ask", 0), ("same", 0, 1, 3), ("go", 0), ("sum", 1, 0, 0), ("go", 0)))
EVERY = (("a", "b2", "c"), ("s", "", "t", "", "c", "", "", "u"),
         (("put", 0, 9), ("ask", 1), ("sum", 2, 0, 1), ("same", 2, 1, 7), ("less", 0, 2, 0),
          ("switch", 1, (2, 4, 2, 7)), ("go", 4), ("end",)))
KEPT = ("go if switch end ask wish strike undo redo slots wished pieces walls enough bound lay curve safe writes "
        "places roads nothing none yes no").split()
KINDS = ("put", "sum", "ask", "go", "same", "less", "switch", "end")


class PlainMachine:
    """A machine by the table of [13]."""

    def __init__(self, program, starts, inputs):
        self.cells, _, self.rows = program
        self.worth = {cell: 0 for cell in range(len(self.cells))}
        self.standing = list(starts)
        self.left = [list(each) for each in inputs]
        self.had = [0] * len(starts)

    def ahead(self, i):
        """Return where thread i goes, None if it has ended."""
        at = self.standing[i]
        match self.rows[at]:
            case ("go", target):
                return target
            case ("same", c, d, target):
                return target if self.worth[c] == self.worth[d] else at + 1
            case ("less", c, d, target):
                return target if self.worth[c] < self.worth[d] else at + 1
            case ("switch", c, targets):
                return targets[self.worth[c] % len(targets)]
            case ("end",):
                return None
        return at + 1

    def do(self, i):
        ahead = self.ahead(i)
        match self.rows[self.standing[i]]:
            case ("put", c, worth):
                self.worth[c] = worth
            case ("sum", c, d, e):
                self.worth[c] = (self.worth[d] + self.worth[e]) % 10
            case ("ask", c):
                self.had[i] += bool(self.left[i])
                self.worth[c] = self.left[i].pop(0) if self.left[i] else 0
        self.standing[i] = ahead
        return ahead

    def told(self):
        return (tuple(self.standing), tuple(self.worth.values()), tuple(self.had))


class PlainSession:
    """A session by [12]; `plan` tells the bound and the lay of a standing."""

    def __init__(self, chart, k, standing, plan):
        self.plan = plan
        self.standing = standing
        self.legs = 0
        self.begin(chart, k)

    def begin(self, chart, k):
        self.chart, self.k = chart, k
        self.entries, self.events, self.start = [], [], self.standing
        self.look(True)

    def look(self, leg_begins):
        self.seen = self.standing
        self.number, traps = self.plan(self.chart, self.k, self.standing)
        if leg_begins:
            self.idle = 0
            self.promised = self.number
        self.traps = () if self.number is None else traps
        self.entries.append(("lay", self.traps))
        self.events.append("lay")

    def go(self, i, b):
        """Let thread i go to b, whether or not a road leads there; return the event."""
        self.standing = self.standing[:i] + (b,) + self.standing[i + 1:]
        self.entries.append(("go", i, b))
        assert b in self.traps or b not in self.chart[2], "missed"
        event = "on" if b not in self.traps else "wished" if b in self.chart[2] else "idle"
        self.events.append(event)
        if event == "wished":
            self.legs += 1
            self.look(True)
        elif event == "idle":
            self.idle += 1
            self.look(False)
        assert self.promised is None or self.idle <= self.promised, "more idle stops than promised"
        return event

    def told(self):
        return (self.seen, self.standing, self.traps, self.idle, self.legs, self.number is None, tuple(self.entries))


def plan_of(chart, k, standing):
    return bound(chart, k, standing), lay(chart, k, standing)


def told_by(session):
    """Return all that a session or a debugger tells."""
    return (session.seen(), session.at(), session.traps(), session.idle(), session.legs(), session.over(),
            session.play())


def goes_from(chart, standing):
    """Return all pairs of a thread and a place to which it can go."""
    return [(i, b) for i, place in enumerate(standing) for a, b in chart[1] if a == place]


def plain_roads(program):
    """Return the roads by the table of [13]."""
    roads = set()
    for at, row in enumerate(program[2]):
        match row:
            case ("go", target):
                ahead = [target]
            case ("same" | "less", _, _, target):
                ahead = [target, at + 1]
            case ("switch", _, targets):
                ahead = targets
            case ("end",):
                ahead = []
            case _:
                ahead = [at + 1]
        roads |= {(at, b) for b in ahead}
    return tuple(sorted(roads))


def random_name(chance):
    """Return a name, now and then one of 12 signs."""
    while True:
        length = chance.choice((1, 1, 2, 3, 5, 12))
        name = chance.choice("abcdxyz") + "".join(chance.choice("abcxyz0189") for _ in range(length - 1))
        if name not in KEPT:
            return name


def random_names(chance, many):
    names = []
    while len(names) < many:
        name = random_name(chance)
        if name not in names:
            names.append(name)
    return names


def random_row(chance, cells, targets, kinds):
    """Return a row of one of these kinds that can be told with these cells and targets."""
    can_be = [kind for kind in kinds
              if (cells or kind in ("go", "end")) and (targets or kind in ("put", "sum", "ask", "end"))]
    kind = chance.choice(can_be or ["end"])
    c, d, e = (chance.randrange(cells) if cells else None for _ in range(3))
    target = chance.choice(targets) if targets else None
    some = tuple(chance.choice(targets) for _ in range(chance.randint(1, 4))) if targets else ()
    return {"put": ("put", c, chance.randrange(10)), "sum": ("sum", c, d, e), "ask": ("ask", c), "go": ("go", target),
            "same": ("same", c, d, target), "less": ("less", c, d, target), "switch": ("switch", c, some),
            "end": ("end",)}[kind]


def some_programs(count, least, most, seed, kinds=KINDS):
    """Yield programs with so many rows, few to eight cells, and labels at some rows."""
    chance = random.Random(seed)
    for _ in range(count):
        rows = chance.randint(least, most)
        cells = chance.choice((0, 1, 2, 2, 3, 8))
        share = chance.choice((0, 0.3, 0.6, 1))
        targets = [row for row in range(rows) if chance.random() < share]
        names = random_names(chance, len(targets))
        labels = tuple(names.pop() if row in targets else "" for row in range(rows))
        told = [random_row(chance, cells, targets, kinds) for _ in range(rows - 1)]
        told.append(random_row(chance, cells, targets, ("go", "switch", "end")))
        yield (tuple(random_names(chance, cells)), labels, tuple(told))


def random_inputs(chance, threads):
    return tuple(tuple(chance.randrange(10) for _ in range(chance.choice((0, 1, 5, 30)))) for _ in range(threads))


def forward_programs(count, seed):
    """Yield programs that lead from row to row, now and then back, to several ends, and rows to wish in them."""
    chance = random.Random(seed)
    for _ in range(count):
        rows = chance.randint(6, 10)
        labels = tuple("t" + str(row) for row in range(rows))
        told = []
        for row in range(rows - 3):
            ahead = [chance.randrange(row + 1, rows) for _ in range(2)]
            if chance.random() < 0.3:
                ahead[0] = chance.randrange(max(0, row - 1), row + 1)
            told.append(chance.choice((
                ("switch", 0, tuple(ahead)), ("less", 0, 1, ahead[0]), ("ask", chance.randrange(2)),
                ("same", 0, 1, ahead[1]))))
        ends = tuple(chance.choice((("end",), ("go", chance.randrange(rows)))) for _ in range(3))
        wished = tuple(range(rows - chance.choice((2, 3)), rows))
        yield (("x", "y"), labels, tuple(told) + ends), wished
