"""The printer of programs."""

from fewtraps.errors import BadProgram
from fewtraps.programs import FORMS, made_program


def print_program(program):
    """Return the text of the program; raise BadProgram(-5) if a reader would number its cells otherwise."""
    cells, labels, rows = made_program(program)
    if cells_named(rows) != list(range(len(cells))):
        raise BadProgram(-5)
    return "; ".join([label_text(label) + deed_text(cells, labels, row) for label, row in zip(labels, rows)])


def cells_named(rows):
    """Return the list of the cells that the rows name, in the order in which they do so for the first time."""
    found = {}
    for row in rows:
        for kind, part in zip(FORMS[row[0]], row[1:]):
            if kind == "cell":
                found[part] = True
    return list(found)


def label_text(label):
    """Return what stands ahead of the deed of a row with this label."""
    return label if label == "" else label + ": "


def deed_text(cells, labels, row):
    """Return the text of a row without its label."""
    word = row[0]
    if word == "end":
        return "end"
    if word == "go":
        return "go " + labels[row[1]]
    first = cells[row[1]]
    if word == "put":
        return first + " = " + str(row[2])
    if word == "sum":
        return first + " = " + cells[row[2]] + " + " + cells[row[3]]
    if word == "ask":
        return first + " = ask"
    if word == "switch":
        return " ".join(["switch", first] + [labels[target] for target in row[2]])
    sign = " = " if word == "same" else " < "
    return "if " + first + sign + cells[row[2]] + " go " + labels[row[3]]
