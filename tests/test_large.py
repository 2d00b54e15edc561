"""Maps of 60 places and 240 roads, with as many threads as the size lets."""

import random

from fewtraps.bounds import bound, curve, lay
from fewtraps.books import book, floor
from fewtraps.cuts import cuts
from fewtraps.enough import endless, enough, widest
from fewtraps.kernel import book_right, endless_right, floor_right, unsafe_right
from fewtraps.never import rounds, safe_lay, unsafe
from fewtraps.own import own_bound, own_lays
from fewtraps.pieces import pieces
from fewtraps.standings import later_rows, members, row_of
from fewtraps.walls import wall
from fewtraps.wardens import beaten, plan_warden
from tests.cases import Case


def large_map(chance, groups, wished):
    """Return a map of 60 places and 240 roads: so many rings, or single places, from each to later ones, and wished."""
    names = chance.sample(range(60), 60)
    ends, rest = names[:wished], names[wished:]
    cut = [0] + sorted(chance.sample(range(1, len(rest)), groups - 1)) + [len(rest)]
    rings = [rest[a:b] for a, b in zip(cut, cut[1:])]
    roads = {(ring[at - 1], ring[at]) for ring in rings if len(ring) > 1 for at in range(len(ring))}
    more = [(a, b) for number, ring in enumerate(rings) for later in rings[number:number + 4]
            for a in ring for b in later if later != ring or len(ring) > 1]
    more += [(a, b) for a in rest for b in ends if chance.random() < 0.1]
    more = sorted(set(more) - roads)
    roads |= set(chance.sample(more, min(240 - len(roads), len(more))))
    return (60, tuple(sorted(roads)), tuple(sorted(ends)))


class TestLarge(Case):
    def right(self, chart, standing):
        """Expect papers that show the bounds for all numbers of traps; return the bounds."""
        found = self.plain(curve(chart, standing))
        row = row_of(chart, standing)
        most = enough(chart, standing)
        self.same(most, max(wall(chart, members(chart, later)) for later in later_rows(chart, standing)[::5] + (
            widest(chart, standing),)))
        self.same(wall(chart, members(chart, widest(chart, standing))), most)
        for k in range(9):
            self.same(bound(chart, k, standing), found[k])
            self.same(found[k] is None, most > k)
            if found[k] is None:
                self.same(lay(chart, k, standing), None)
                self.same(endless_right(chart, k, standing, endless(chart, k, standing)), True)
                continue
            self.same(cuts(chart, lay(chart, k, standing), members(chart, standing)), True)
            entries = {entry[0]: entry[1:] for entry in book(chart, k, standing)}
            self.same(entries[row], (lay(chart, k, standing), found[k]))
            self.same(book_right(chart, k, standing, book(chart, k, standing)), True)
            numbers = {entry[0]: entry[1] for entry in floor(chart, k, standing)}
            self.same(numbers.get(row, 0), found[k])
            self.same(floor_right(chart, k, standing, floor(chart, k, standing)), True)
        return found

    def test_as_many_threads_as_the_size_lets(self):
        chance = random.Random(301)
        for threads, size, tries in ((1, 60, 6), (2, 20, 3), (3, 7, 3)):
            told = set()
            for _ in range(tries):
                wished = chance.randint(1, min(12, size // 2))
                chart = large_map(chance, min(size - wished, 40), wished)
                self.same(len(chart[1]) > 200 and len(pieces(chart)) + wished <= size, True)
                told |= set(self.right(chart, tuple(chance.randrange(60) for _ in range(threads))))
            self.assertLessEqual({None, 0}, told)
            self.assertTrue(threads > 1 or max(told - {None}) > 3)

    def test_one_thread(self):
        chance = random.Random(302)
        for _ in range(8):
            chart = large_map(chance, 40, 12)
            for k in (0, 2, 5, 8):
                gone = rounds(chart, k)
                for a in range(0, 60, 7):
                    self.same(safe_lay(chart, k, a) is None, gone[a] > 0)
                    self.same(unsafe(chart, k, a) is not None, gone[a] > 0)
                    self.same(unsafe_right(chart, k, a, unsafe(chart, k, a)), gone[a] > 0)

    def test_own_traps_of_three_threads(self):
        chance = random.Random(303)
        for _ in range(8):
            chart = large_map(chance, 40, 12)
            standing = tuple(chance.randrange(60) for _ in range(3))
            for k in (4, 6, 8):
                bounds = [bound(chart, k, (place,)) for place in standing]
                self.same(own_bound(chart, k, standing), None if None in bounds else sum(bounds))
                lays = tuple(lay(chart, k, (place,)) for place in standing)
                self.same(own_lays(chart, k, standing), None if None in bounds else lays)

    def test_plans(self):
        chance = random.Random(304)
        for _ in range(6):
            chart = large_map(chance, 40, 12)
            for k in (5, 7, 8):
                plan = plan_warden(chart, k, 1)
                for a in range(0, 60, 5):
                    number = bound(chart, k, (a,))
                    if number is None:
                        self.assertIsNotNone(beaten(chart, k, (a,), plan, 20))
                    else:
                        self.assertIsNone(beaten(chart, k, (a,), plan, number))
                        self.assertTrue(number == 0 or beaten(chart, k, (a,), plan, number - 1) is not None)
