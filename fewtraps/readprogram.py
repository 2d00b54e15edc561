"""The reader of programs."""

from fewtraps.errors import BadNumber, BadText, NoName, TooMany, Twice
from fewtraps.programs import GREATEST_WORTH, LAST, MOST_CELLS, MOST_PROGRAM_ROWS, MOST_TARGETS
from fewtraps.readers import Reader

DEED_WORDS = ("go", "if", "switch", "end")


def read_program(text):
    """Return the program that the text tells."""
    reading = Reading(text)
    reading.read_rows()
    return reading.whole_program()


class Reading:
    """A program as far as it has been read. Its rows have the names of their targets until the end is known."""

    def __init__(self, text):
        self.reader = Reader(text)
        self.numbers = {}
        self.labels = []
        self.rows = []
        self.named = []

    def read_rows(self):
        """Read all rows, up to the end of the text."""
        self._read_row()
        while self.reader.skips(";"):
            self._read_row()
        self.reader.check_end()
        if self.rows[-1][0] not in LAST:
            raise BadText(self.reader.place())

    def whole_program(self):
        """Return the program; expect that all targets are labels of rows."""
        targets = {label: index for index, label in enumerate(self.labels) if label != ""}
        for name, place in self.named:
            if name not in targets:
                raise NoName(place)
        rows = tuple([with_numbers(row, targets) for row in self.rows])
        return (tuple(list(self.numbers)), tuple(self.labels), rows)

    def _read_row(self):
        """Read a row, with its label if it has one."""
        reader = self.reader
        labelled = reader.at_name() and reader.second_word() == ":"
        # The word behind a name is asked ahead of the questions of the name.
        if reader.at_name() and not labelled and reader.second_word() != "=":
            raise BadText(reader.second_place())
        if not reader.at_name() and reader.word() not in DEED_WORDS:
            raise BadText(reader.place())
        if len(self.rows) == MOST_PROGRAM_ROWS:
            raise TooMany(reader.place())
        self.labels.append(self._read_label() if labelled else "")
        self.rows.append(self._read_deed())

    def _read_label(self):
        reader = self.reader
        place = reader.place()
        label = reader.name()
        if label in self.labels:
            raise Twice(place)
        reader.one_of((":",))
        return label

    def _read_deed(self):
        if self.reader.at_name():
            return self._read_giving()
        word = self.reader.one_of(DEED_WORDS)
        if word == "go":
            return ("go", self._read_target())
        if word == "if":
            return self._read_if()
        if word == "switch":
            return self._read_switch()
        return ("end",)

    def _read_giving(self):
        """Read a row that gives a cell a worth."""
        reader = self.reader
        cell = self._read_cell()
        reader.one_of(("=",))
        if reader.skips("ask"):
            return ("ask", cell)
        if reader.at_number():
            return ("put", cell, self._read_worth())
        one = self._read_cell()
        reader.one_of(("+",))
        return ("sum", cell, one, self._read_cell())

    def _read_if(self):
        one = self._read_cell()
        sign = self.reader.one_of(("=", "<"))
        other = self._read_cell()
        self.reader.one_of(("go",))
        return ("same" if sign == "=" else "less", one, other, self._read_target())

    def _read_switch(self):
        cell = self._read_cell()
        targets = [self._read_target()]
        while self.reader.at_name():
            if len(targets) == MOST_TARGETS:
                raise TooMany(self.reader.place())
            targets.append(self._read_target())
        return ("switch", cell, tuple(targets))

    def _read_worth(self):
        place = self.reader.place()
        worth = self.reader.number()
        if worth > GREATEST_WORTH:
            raise BadNumber(place)
        return worth

    def _read_cell(self):
        """Return the number of the cell that the next word names."""
        place = self.reader.place()
        name = self.reader.name()
        if name not in self.numbers:
            if len(self.numbers) == MOST_CELLS:
                raise TooMany(place)
            self.numbers[name] = len(self.numbers)
        return self.numbers[name]

    def _read_target(self):
        """Return the label that the next word names; whether some row has it is known at the end only."""
        place = self.reader.place()
        name = self.reader.name()
        self.named.append((name, place))
        return name


def with_numbers(row, targets):
    """Return the row with the numbers of its targets instead of their names."""
    if row[0] == "switch":
        return row[:2] + (tuple([targets[name] for name in row[2]]),)
    if row[0] in ("go", "same", "less"):
        return row[:-1] + (targets[row[-1]],)
    return row
