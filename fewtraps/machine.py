"""A machine that runs a program with up to three threads, which share its cells."""

from fewtraps.errors import BadInputs, Ended
from fewtraps.maps import number_within
from fewtraps.programs import GREATEST_WORTH, made_program, rows_behind
from fewtraps.standings import check_thread, made_standing

MOST_INPUTS = 200


class Machine:
    """The threads of a program at work: where they stand, what the cells hold, and which inputs are left."""

    def __init__(self, program, starts, inputs):
        cells, _, rows = made_program(program)
        made_standing((len(rows), (), ()), starts)
        check_inputs(starts, inputs)
        self.rows = rows
        self.inputs = inputs
        self.places = list(starts)
        self.worths = [0] * len(cells)
        self.taken = [0] * len(starts)

    def at(self):
        """Return for each thread the row at which it stands."""
        return tuple(self.places)

    def cells(self):
        """Return the worths of the cells."""
        return tuple(self.worths)

    def asked(self):
        """Return for each thread how many of its inputs it has had."""
        return tuple(self.taken)

    def next_place(self, i):
        """Return the row to which thread i would come by its next step."""
        check_thread(self.places, i)
        if self.has_ended(i):
            raise Ended(i)
        place = self.places[i]
        row = self.rows[place]
        choices = rows_behind(place, row)
        return choices[self._choice_of(row) % len(choices)]

    def step(self, i):
        """Let thread i do the row at which it stands; return the row to which it comes."""
        place = self.next_place(i)
        self._do(i, self.rows[self.places[i]])
        self.places[i] = place
        return place

    def has_ended(self, i):
        """Return whether thread i has ended."""
        return self.rows[self.places[i]][0] == "end"

    def _choice_of(self, row):
        """Return a number that tells which of the rows behind this one is next."""
        word = row[0]
        if word == "same":
            return 1 if self.worths[row[1]] == self.worths[row[2]] else 0
        if word == "less":
            return 1 if self.worths[row[1]] < self.worths[row[2]] else 0
        return self.worths[row[1]] if word == "switch" else 0

    def _do(self, i, row):
        """Do what the row does to the cells and to the inputs of thread i."""
        word = row[0]
        if word == "put":
            self.worths[row[1]] = row[2]
        elif word == "sum":
            self.worths[row[1]] = (self.worths[row[2]] + self.worths[row[3]]) % (GREATEST_WORTH + 1)
        elif word == "ask":
            self.worths[row[1]] = self._next_input(i)

    def _next_input(self, i):
        """Return the next input of thread i, 0 if there is none left."""
        taken = self.taken[i]
        if taken == len(self.inputs[i]):
            return 0
        self.taken[i] = taken + 1
        return self.inputs[i][taken]


def check_inputs(starts, thing):
    """Raise BadInputs unless thing is a tuple with inputs for each thread."""
    if not isinstance(thing, tuple) or len(thing) != len(starts):
        raise BadInputs(-1)
    for index, each in enumerate(thing):
        if not inputs_fit(each):
            raise BadInputs(index)


def inputs_fit(thing):
    """Return whether thing is a tuple of inputs for one thread."""
    if not isinstance(thing, tuple) or len(thing) > MOST_INPUTS:
        return False
    return all([number_within(worth, 0, GREATEST_WORTH) for worth in thing])
