import itertools
import random

from fewtraps.errors import BadEvents, BadMap, BadNumber, BadPlay, BadStanding
from fewtraps.plays import most_idle, referee
from tests.cases import CHAIN60, EMPTY, FULL60, RING60, SELF, Case, M, some_lot, some_maps

PLAY = (("lay", (2, 3)), ("go", 0, 1), ("go", 0, 2), ("lay", (4,)), ("go", 0, 5))
EVENTS = ("lay", "on", "idle", "wished", "miss")


def random_play(chance, chart, k, standing, length):
    """Return a play that follows the rules, its events and the standing behind it."""
    entries = []
    events = []
    traps = ()
    while len(entries) < length and events[-1:] != ["miss"]:
        if not events or events[-1] in ("idle", "wished"):
            traps = some_lot(chance, range(chart[0]))[:k]
            entries.append(("lay", traps))
            events.append("lay")
            continue
        goes = [(i, b) for i, place in enumerate(standing) for a, b in chart[1] if a == place]
        if not goes:
            break
        i, b = chance.choice(goes)
        standing = standing[:i] + (b,) + standing[i + 1:]
        entries.append(("go", i, b))
        events.append({(False, False): "on", (False, True): "idle", (True, True): "wished", (True, False): "miss"}[
            b in chart[2], b in traps])
    return tuple(entries), tuple(events), standing


class TestReferee(Case):
    def bad(self, index, play, chart=M, k=2, standing=(0,)):
        self.refused(BadPlay, index, referee, chart, k, standing, play)

    def test_example(self):
        self.same(referee(M, 2, (0,), PLAY), (("lay", "on", "idle", "lay", "miss"), (5,)))

    def test_each_cut_of_a_play(self):
        events, standings = ("lay", "on", "idle", "lay", "miss"), ((0,), (0,), (1,), (2,), (2,), (5,))
        for many in range(6):
            self.same(referee(M, 2, (0,), PLAY[:many]), (events[:many], standings[many]))

    def test_the_empty_play(self):
        for standing in ((0,), (4, 4), (7, 0, 3)):
            self.same(referee(M, 0, standing, ()), ((), standing))

    def test_each_event(self):
        play = (("lay", (1, 6)), ("go", 0, 0), ("go", 0, 1), ("lay", ()), ("go", 0, 3), ("go", 1, 6))
        self.same(referee(M, 2, (0, 3), play[:3] + (("lay", (1, 6)), ("go", 1, 6))),
                  (("lay", "on", "idle", "lay", "wished"), (1, 6)))
        self.same(referee(M, 2, (0, 3), play), (("lay", "on", "idle", "lay", "on", "miss"), (3, 6)))
        # A thread goes on from a wished place behind its stop.
        back = (2, ((0, 1), (1, 0)), (1,))
        play = (("lay", (1,)), ("go", 0, 1), ("lay", (1,)), ("go", 0, 0), ("go", 0, 1))
        self.same(referee(back, 1, (0,), play), (("lay", "wished", "lay", "on", "wished"), (1,)))

    def test_a_trap_where_a_thread_stands(self):
        # It does not stop the thread there, but one that comes there, also by a road from the place to itself.
        self.same(referee(M, 1, (0,), (("lay", (0,)), ("go", 0, 1))), (("lay", "on"), (1,)))
        self.same(referee(M, 1, (0,), (("lay", (0,)), ("go", 0, 0))), (("lay", "idle"), (0,)))
        self.same(referee(M, 1, (1, 0), (("lay", (1,)), ("go", 1, 1))), (("lay", "idle"), (1, 1)))
        self.same(referee(SELF, 1, (0,), (("lay", (0,)), ("go", 0, 0))), (("lay", "wished"), (0,)))
        self.same(referee(SELF, 1, (0,), (("lay", ()), ("go", 0, 0))), (("lay", "miss"), (0,)))

    def test_a_lay_takes_earlier_traps_away(self):
        play = (("lay", (2,)), ("go", 0, 2), ("lay", (5,)), ("go", 1, 2), ("go", 0, 5))
        self.same(referee(M, 1, (1, 1), play), (("lay", "idle", "lay", "on", "wished"), (5, 2)))

    def test_lays_at_a_wrong_time(self):
        self.bad(1, (("lay", (2,)), ("lay", (2,))))
        self.bad(2, (("lay", (2,)), ("go", 0, 1), ("lay", (2,))))
        self.bad(3, (("lay", (1,)), ("go", 0, 1), ("lay", ()), ("lay", ())))
        self.bad(3, (("lay", ()), ("go", 0, 0), ("go", 0, 0), ("lay", ()), ("lay", ())))

    def test_goes_at_a_wrong_time(self):
        self.bad(0, (("go", 0, 1),))
        self.bad(0, (("go", 0, 1), ("lay", ())))
        self.bad(2, (("lay", (1,)), ("go", 0, 1), ("go", 0, 2)))
        self.bad(2, (("lay", (4,)), ("go", 0, 4), ("go", 1, 1)), standing=(2, 0))
        self.bad(2, (("lay", ()), ("go", 0, 4), ("go", 1, 1)), standing=(2, 0))

    def test_nothing_behind_a_miss(self):
        for entry in (("lay", ()), ("lay", (4,)), ("go", 1, 1), ("go", 0, 4), None):
            self.bad(2, (("lay", (5,)), ("go", 0, 4), entry), standing=(2, 0))

    def test_threads_that_are_not_there(self):
        for i in (1, -1, 2, True, False, None, "0", (0,), 0.0):
            self.bad(1, (("lay", ()), ("go", i, 1)))
        self.bad(2, (("lay", ()), ("go", 1, 1), ("go", 2, 1)), standing=(0, 0))
        self.bad(1, (("lay", ()), ("go", True, 1)), standing=(0, 0))

    def test_places_to_which_no_road_leads(self):
        for b in (2, 4, 7, 8, -1, 60, True, False, None, "1", (1,), 1.0):
            self.bad(1, (("lay", ()), ("go", 0, b)))
        self.bad(1, (("lay", ()), ("go", 0, True)), chart=(2, ((0, 1),), ()))
        self.bad(1, (("lay", ()), ("go", 0, False)), chart=SELF)
        self.bad(1, (("lay", ()), ("go", 0, 4)), standing=(3,))

    def test_lots_that_are_none(self):
        for traps in ((1, 0), (1, 1), (8,), (-1,), (0, 1, 2), (True,), ("1",), (None,), [1], 1, None, "", "lay",
                      ((1,),)):
            self.bad(0, (("lay", traps),))
            self.bad(2, (("lay", (1,)), ("go", 0, 1), ("lay", traps)))
        self.bad(0, (("lay", (1,)),), k=0)
        self.same(referee(M, 0, (0,), (("lay", ()),)), (("lay",), (0,)))
        self.same(referee(M, 8, (0,), (("lay", tuple(range(8))),)), (("lay",), (0,)))
        self.bad(0, (("lay", tuple(range(9))),), chart=FULL60, k=8)

    def test_entries_of_other_forms(self):
        for entry in (None, 0, True, "lay", "go", (), ("lay",), ("go",), ("lay", (), ()), ("go", 0), ("go", 0, 1, 1),
                      ["lay", ()], ["go", 0, 1], ("on",), ("idle", ()), ("stop", 0, 1), ("Lay", ()), ("GO", 0, 1),
                      (0, 0, 1), (None, ()), (("lay",), ()), ("go", ()), ("lay", 0, 1), ("", ())):
            self.bad(0, (entry,))
            self.bad(1, (("lay", (1,)), entry))
            self.bad(2, (("lay", (1,)), ("go", 0, 1), entry))

    def test_what_is_no_tuple(self):
        for play in (None, 0, True, "", "play", [], [("lay", ())], {}):
            self.bad(-1, play)

    def test_the_first_bad_entry(self):
        self.bad(1, (("lay", (1,)), ("lay", (1,)), None, ("go", 7, 7)))
        self.bad(0, (None, None))

    def test_the_order_of_the_errors(self):
        self.refused(BadMap, -1, referee, None, 9, None, None)
        self.refused(BadNumber, 9, referee, M, 9, None, None)
        self.refused(BadStanding, -1, referee, M, 2, None, None)
        self.refused(BadStanding, 1, referee, M, 2, (0, 8), [])
        self.refused(BadPlay, -1, referee, M, 2, (0, 7), [])
        self.refused(BadStanding, 0, referee, EMPTY, 0, (0,), ())
        self.checks_arguments(lambda chart, k, standing: referee(chart, k, standing, None), k=2)

    def test_plays_that_follow_the_rules(self):
        chance = random.Random(281)
        told = set()
        for chart in some_maps(150, 2, 7, 282):
            for threads in (1, 2, 3):
                standing = tuple(chance.randrange(chart[0]) for _ in range(threads))
                k = chance.randrange(4)
                play, events, behind = random_play(chance, chart, k, standing, 14)
                self.same(self.plain_play(referee(chart, k, standing, play)), (events, behind))
                self.same(referee(chart, k, standing, play), (events, behind))
                for many in range(len(play)):
                    self.same(referee(chart, k, standing, play[:many])[0], events[:many])
                    # Without one entry the rest is either let as well or refused there or behind it.
                    try:
                        referee(chart, k, standing, play[:many] + play[many + 1:])
                    except BadPlay as error:
                        self.assertGreaterEqual(error.what, many)
                told |= set(events)
        self.assertEqual(told, set(EVENTS))

    def plain_play(self, found):
        self.assertEqual([type(part) for part in found], [tuple, tuple])
        self.plain(found[1])
        return found

    def test_large_maps(self):
        goes = tuple(("go", 0, b) for b in range(1, 60))
        self.same(referee(CHAIN60, 1, (0,), (("lay", (59,)),) + goes), (("lay",) + ("on",) * 58 + ("wished",), (59,)))
        rounds = tuple(("go", i, (step + 1) % 60) for step in range(2000) for i in range(3))
        self.same(referee(RING60, 0, (0, 0, 0), (("lay", ()),) + rounds), (("lay",) + ("on",) * 6000, (20, 20, 20)))
        self.same(referee(FULL60, 8, (46,), (("lay", tuple(range(47, 55))), ("go", 0, 50))), (("lay", "wished"), (50,)))

    def test_by_names(self):
        self.same(self.by_names(referee, chart=M, k=2, standing=(0,), play=PLAY[:2]), (("lay", "on"), (1,)))


class TestMostIdle(Case):
    def test_example(self):
        self.same(most_idle(("lay", "idle", "lay", "wished", "lay", "on")), 1)

    def test_parts(self):
        self.same(most_idle(()), 0)
        self.same(most_idle(("wished",)), 0)
        self.same(most_idle(("idle",) * 5), 5)
        self.same(most_idle(("idle", "idle", "wished", "idle")), 2)
        self.same(most_idle(("idle", "wished", "idle", "idle")), 2)
        self.same(most_idle(("idle", "wished", "idle", "idle", "wished", "idle")), 2)
        self.same(most_idle(("wished", "wished", "idle")), 1)
        self.same(most_idle(("miss", "idle", "on", "miss", "idle", "lay")), 2)

    def test_all_short_tuples(self):
        for length in range(6):
            for events in itertools.product(EVENTS, repeat=length):
                parts = "".join(event[0] for event in events).split("w")
                self.same(most_idle(events), max(part.count("i") for part in parts))

    def test_bad_events(self):
        for thing in (None, 0, True, "", "lay", "idle", [], ["idle"], {}, ("stop",), ("lay", "Idle"), ("idle", ""),
                      ("on", None), (0,), (True,), (("lay",),), (["lay"],), ("idle", "idle", 7), ("lay ",), ((),)):
            self.refused(BadEvents, -1, most_idle, thing)

    def test_by_names(self):
        self.same(self.by_names(most_idle, events=("idle", "lay", "idle")), 2)
