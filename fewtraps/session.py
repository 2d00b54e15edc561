"""Sessions: a debugger at work, which is told which thread went where and lays traps anew at each stop."""

from fewtraps.errors import BadRoad, NoBound, Over, Running, Unlike
from fewtraps.maps import check_traps_number, made_map, place_fits
from fewtraps.plans import later_plan
from fewtraps.plays import STOPS, event_at
from fewtraps.standings import check_thread


class Session:
    """A debugger at work on a map with k traps, from a standing on."""

    def __init__(self, chart, k, standing):
        plan = promising_plan(chart, k, standing)
        self.standing = standing
        self.wished_stops = 0
        self._begin(plan)

    def seen(self):
        """Return the standing in which the threads were when they were seen last."""
        return self.looked_at

    def at(self):
        """Return the standing in which the threads are."""
        return self.standing

    def traps(self):
        """Return the traps."""
        return self.laid

    def idle(self):
        """Return the number of idle stops in this leg."""
        return self.idle_stops

    def legs(self):
        """Return the number of wished stops so far."""
        return self.wished_stops

    def over(self):
        """Return whether the session is over."""
        return self.hopeless

    def play(self):
        """Return the play since the beginning or the last change."""
        return tuple(self.entries)

    def go(self, i, b):
        """Let thread i go to place b; return the event."""
        if self.hopeless:
            raise Over(0)
        check_thread(self.standing, i)
        if not place_fits(self.chart, b) or (self.standing[i], b) not in self.roads:
            raise BadRoad(b)
        self.standing = self.standing[:i] + (b,) + self.standing[i + 1:]
        self.entries.append(("go", i, b))
        self.gone_on = True
        event = event_at(self.chart, self.laid, b)
        if event == "idle":
            self.idle_stops = self.idle_stops + 1
        elif event == "wished":
            self.wished_stops = self.wished_stops + 1
            self.idle_stops = 0
        if event in STOPS:
            self._see_all()
        return event

    def change(self, chart, k):
        """Go on with this map and number of traps."""
        made_map(chart)
        check_traps_number(k)
        if chart[0] != self.chart[0]:
            raise Unlike(chart[0])
        if self.gone_on:
            raise Running(0)
        self._begin(promising_plan(chart, k, self.standing))

    def _begin(self, plan):
        """Begin a leg and a play by this plan."""
        self.plan = plan
        self.chart = plan.survey.chart
        self.roads = {road: True for road in self.chart[1]}
        self.idle_stops = 0
        self.entries = []
        self._see_all()

    def _see_all(self):
        """See where all threads stand and lay the traps for it."""
        traps = self.plan.lay_at(self.standing)
        self.looked_at = self.standing
        self.gone_on = False
        self.hopeless = traps is None
        self.laid = () if traps is None else traps
        self.entries.append(("lay", self.laid))


def promising_plan(chart, k, standing):
    """Return the plan from the standing on; raise what Session raises."""
    plan = later_plan(chart, k, standing)
    if plan.lay_at(standing) is None:
        raise NoBound(0)
    return plan
