"""Programs, and the maps of the roads that threads can take through their rows."""

from fewtraps.errors import BadCell, BadProgram, Refused
from fewtraps.maps import check_lot, number_within
from fewtraps.words import is_name

MOST_CELLS = 8
MOST_PROGRAM_ROWS = 60
MOST_TARGETS = 4
GREATEST_WORTH = 9
# What stands behind the first word of each row.
FORMS = {
    "put": ("cell", "worth"),
    "sum": ("cell", "cell", "cell"),
    "ask": ("cell",),
    "go": ("target",),
    "same": ("cell", "cell", "target"),
    "less": ("cell", "cell", "target"),
    "switch": ("cell", "targets"),
    "end": (),
}
# The rows that give their first cell a worth, and those behind which no thread goes to the next row.
WRITING = ("put", "sum", "ask")
LAST = ("go", "switch", "end")


def made_program(thing):
    """Return the program; raise BadProgram if thing is not one."""
    if not isinstance(thing, tuple) or len(thing) != 3:
        raise BadProgram(-1)
    cells, labels, rows = thing
    if not cells_fit(cells):
        raise BadProgram(-2)
    if not isinstance(rows, tuple) or not 1 <= len(rows) <= MOST_PROGRAM_ROWS:
        raise BadProgram(-3)
    if not labels_fit(labels, len(rows)):
        raise BadProgram(-4)
    for index, row in enumerate(rows):
        if not row_fits(cells, labels, row):
            raise BadProgram(index)
    if rows[-1][0] not in LAST:
        raise BadProgram(len(rows) - 1)
    return thing


def is_program(thing):
    """Return whether thing is a program."""
    try:
        made_program(thing)
    except Refused:
        return False
    return True


def roads_of(program):
    """Return the pairs of rows such that a thread may go from the first to the second one."""
    made_program(program)
    return tuple(sorted({(a, b) for a, row in enumerate(program[2]) for b in rows_behind(a, row)}))


def map_of(program, wished):
    """Return the map of the program with these rows wished."""
    roads = roads_of(program)
    places = len(program[2])
    check_lot((places, roads, ()), wished)
    return (places, roads, wished)


def writes(program, c):
    """Return the rows that give cell c a worth."""
    made_program(program)
    if not number_within(c, 0, len(program[0]) - 1):
        raise BadCell(c)
    return tuple([index for index, row in enumerate(program[2]) if row[0] in WRITING and row[1] == c])


def cells_fit(thing):
    """Return whether thing is a tuple of few enough different names."""
    if not isinstance(thing, tuple) or len(thing) > MOST_CELLS:
        return False
    return all([is_name(cell) for cell in thing]) and len(set(thing)) == len(thing)


def labels_fit(thing, many):
    """Return whether thing is a tuple of so many labels of rows."""
    if not isinstance(thing, tuple) or len(thing) != many:
        return False
    if not all([label == "" or is_name(label) for label in thing]):
        return False
    named = [label for label in thing if label != ""]
    return len(set(named)) == len(named)


def row_fits(cells, labels, thing):
    """Return whether thing is a row of a program with these cells and labels."""
    if not isinstance(thing, tuple) or len(thing) == 0 or not isinstance(thing[0], str) or thing[0] not in FORMS:
        return False
    form = FORMS[thing[0]]
    if len(thing) != 1 + len(form):
        return False
    return all([part_fits(cells, labels, kind, part) for kind, part in zip(form, thing[1:])])


def part_fits(cells, labels, kind, thing):
    """Return whether thing is a part of this kind of a row."""
    if kind == "cell":
        return number_within(thing, 0, len(cells) - 1)
    if kind == "worth":
        return number_within(thing, 0, GREATEST_WORTH)
    if kind == "target":
        return target_fits(labels, thing)
    if not isinstance(thing, tuple) or not 1 <= len(thing) <= MOST_TARGETS:
        return False
    return all([target_fits(labels, target) for target in thing])


def target_fits(labels, thing):
    """Return whether thing is the number of a row that has a label."""
    return number_within(thing, 0, len(labels) - 1) and labels[thing] != ""


def rows_behind(index, row):
    """Return the rows to which a thread may go from this row."""
    word = row[0]
    if word == "end":
        return ()
    if word == "go":
        return (row[1],)
    if word == "switch":
        return row[2]
    if word in WRITING:
        return (index + 1,)
    return (index + 1, row[3])
