"""The search for a play that beats a warden."""

from fewtraps.maps import roads_from
from fewtraps.plays import event_at


class Hunt:
    """A map and a warden, with the runs from the standings in which the warden has seen the threads so far."""

    def __init__(self, chart, warden):
        self.chart = chart
        self.targets = roads_from(chart)
        self.lays = {standing: traps for standing, traps in warden}
        self.runs = {}

    def play_from(self, standing, j):
        """Return a play with a miss behind at most j idle stops, or with idle stop j + 1; None if there is none."""
        # One dict for each number of idle stops: the standings seen then, each with one seen at the stop before.
        levels = [{standing: None}]
        while len(levels) <= j + 1:
            further = {}
            for here in levels[-1]:
                run = self._run_from(here)
                if run.miss is not None:
                    return self._play_to(levels, here) + run.entries_to(run.miss)
                for stop in run.stops:
                    further[stop] = here
            if not further:
                return None
            levels.append(further)
        return self._play_to(levels, min(levels[-1]))

    def _run_from(self, here):
        if here not in self.runs:
            self.runs[here] = Run(self.chart, self.targets, here, self.lays.get(here, ()))
        return self.runs[here]

    def _play_to(self, levels, last):
        """Return the entries up to the stop at which the threads are seen at `last`, one of the latest level."""
        chain = [last]
        for level in levels[:0:-1]:
            chain.append(level[chain[-1]])
        chain.reverse()
        entries = ()
        for here, stop in zip(chain, chain[1:]):
            run = self._run_from(here)
            entries = entries + run.entries_to(run.stops[stop])
        return entries


class Run:
    """What the threads can do from where they are seen until the next stop, or until the first miss if there is one.

    A go is told as the standing ahead of it, the thread and the place to which it goes.
    """

    def __init__(self, chart, targets, here, traps):
        self.laid = traps
        self.came = {here: None}
        self.stops = {}
        self.miss = None
        latest = [here]
        while latest and self.miss is None:
            goes = [(standing, i, b) for standing in latest for i, a in enumerate(standing) for b in targets[a]]
            latest = []
            for standing, i, b in goes:
                event = event_at(chart, traps, b)
                behind = standing[:i] + (b,) + standing[i + 1:]
                if event == "miss":
                    self.miss = (standing, i, b)
                elif event == "idle":
                    self.stops[behind] = (standing, i, b)
                elif event == "on" and behind not in self.came:
                    self.came[behind] = (standing, i, b)
                    latest.append(behind)

    def entries_to(self, go):
        """Return the entries of the lay and of all goes, of which this one is the last."""
        found = []
        while go is not None:
            standing, i, b = go
            found.append(("go", i, b))
            go = self.came[standing]
        found.append(("lay", self.laid))
        return tuple(found[::-1])
