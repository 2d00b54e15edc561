"""A debugger: a machine that runs a program inside a session, so that each step is a go of the session."""

from fewtraps.errors import BadWeave, Over
from fewtraps.machine import Machine
from fewtraps.maps import check_traps_number
from fewtraps.programs import map_of
from fewtraps.session import Session
from fewtraps.standings import thread_fits

MOST_STEPS = 400


class Debugger:
    """A program at work with k traps, stopped at the wished rows."""

    def __init__(self, program, wished, k, starts, inputs):
        chart = map_of(program, wished)
        check_traps_number(k)
        self.machine = Machine(program, starts, inputs)
        self.session = Session(chart, k, starts)

    def step(self, i):
        """Let thread i do its row; return the event of where it comes to."""
        if self.session.over():
            raise Over(0)
        # The machine refuses wrong and ended threads ahead of any change, and the session lets all that it does.
        return self.session.go(i, self.machine.step(i))

    def run(self, weave):
        """Step these threads in turn; return a word for each."""
        self._check_weave(weave)
        return tuple([self._word_of(i) for i in weave])

    def at(self):
        """Return for each thread the row at which it stands."""
        return self.machine.at()

    def cells(self):
        """Return the worths of the cells."""
        return self.machine.cells()

    def seen(self):
        """Return the standing in which the threads were when they were seen last."""
        return self.session.seen()

    def traps(self):
        """Return the traps."""
        return self.session.traps()

    def idle(self):
        """Return the number of idle stops in this leg."""
        return self.session.idle()

    def legs(self):
        """Return the number of wished stops so far."""
        return self.session.legs()

    def over(self):
        """Return whether the session is over."""
        return self.session.over()

    def play(self):
        """Return the play since the beginning."""
        return self.session.play()

    def _check_weave(self, thing):
        if not isinstance(thing, tuple) or len(thing) > MOST_STEPS:
            raise BadWeave(-1)
        for index, i in enumerate(thing):
            if not thread_fits(self.machine.at(), i):
                raise BadWeave(index)

    def _word_of(self, i):
        """Step thread i if it can be stepped; return the word for it."""
        if self.session.over():
            return "over"
        if self.machine.has_ended(i):
            return "ended"
        return self.step(i)
