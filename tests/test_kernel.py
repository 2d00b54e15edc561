import ast
import collections
import pathlib
import random

import fewtraps.kernel
from fewtraps.books import book, floor
from fewtraps.bounds import bound, lay
from fewtraps.enough import endless
from fewtraps.kernel import book_right, endless_right, floor_right, unsafe_right, ways_right
from fewtraps.never import unsafe
from fewtraps.ways import share
from tests.cases import (CHAIN, EMPTY, FULL60, M2, M3, NO_COUNTS, NO_LOTS, NO_MAPS, NO_STANDINGS, RING60, SELF, SPINE,
                         Case, M, all_maps, layered_maps, lots_of, some_lot, some_maps, spine_maps, standings_of)
from tests.judging import (ODD, right_book, right_endless, right_floor, right_unsafe, right_ways, spoiled)
from tests.reckoning import Reckoning

M5 = (5, ((0, 0), (0, 2), (1, 1), (1, 2), (2, 3), (2, 4)), (3, 4))
M6 = (4, ((0, 1), (1, 0), (1, 2), (1, 3)), (2, 3))
FORK = (4, ((0, 1), (1, 2), (1, 3)), (2, 3))
ANY = (3, ((0, 1), (1, 2)), (2,))

# Three threads on a map of 39 rows of each thread, of which only six are come to from (0, 3, 0).
MANY = (60, ((0, 1), (0, 2), (1, 5), (1, 6), (2, 6), (2, 7), (3, 4)), (5, 6, 7) + tuple(range(30, 60)))


class TestModule(Case):
    def test_it_uses_only_errors_and_maps(self):
        for name in ("kernel", "maps", "errors"):
            tree = ast.parse(pathlib.Path(fewtraps.kernel.__file__).with_name(name + ".py").read_text())
            used = {node.module for node in ast.walk(tree) if isinstance(node, ast.ImportFrom)}
            self.assertLessEqual(used, {"fewtraps.errors", "fewtraps.maps"})

    def test_no_map_no_k_no_standing(self):
        for judge in (endless_right, book_right, floor_right):
            for thing in ((), None, ((0,), ((0, 1, 2),)), (((0,), (2,), 0),)):
                for chart in NO_MAPS:
                    self.same(judge(chart, 0, (0,), thing), False)
                for k in NO_COUNTS:
                    self.same(judge(ANY, k, (0,), thing), False)
                for _, standing in NO_STANDINGS:
                    self.same(judge(ANY, 1, standing, thing), False)
            for thing in ODD:
                self.same(judge(thing, 1, (0,), ()), False)
                self.same(judge(ANY, thing if thing not in (0, 5) else None, (0,), ()), False)
                self.same(judge(ANY, 1, thing if thing != (0,) else (), ()), False)
                self.same(judge(ANY, 1, (0,), thing), False)
        for thing in ((), None, ((0, ((0, 1, 2),)),)):
            for chart in NO_MAPS:
                self.same(unsafe_right(chart, 0, 0, thing), False)
            for k in NO_COUNTS:
                self.same(unsafe_right(ANY, k, 0, thing), False)
            for a in (-1, 3, True, False, None, "0", (0,), ()):
                self.same(unsafe_right(ANY, 0, a, thing), False)
        for thing in ODD:
            self.same(unsafe_right(ANY, 0, 0, thing), False)
            self.same(unsafe_right(ANY, 0, thing, ((0, ((0, 1, 2),)),)), type(thing) is int and thing == 0)

    def test_by_names(self):
        self.same(self.by_names(ways_right, chart=CHAIN, lot=(0,), free=(1,), thing=((0, 1, 2, 3),)), True)
        self.same(self.by_names(endless_right, chart=SELF, k=0, standing=(0,), thing=((0,), ((0, 0),))), True)
        self.same(self.by_names(book_right, chart=SELF, k=1, standing=(0,), thing=(((0,), (0,), 0),)), True)
        self.same(self.by_names(floor_right, chart=SELF, k=1, standing=(0,), thing=()), True)
        self.same(self.by_names(unsafe_right, chart=SELF, k=0, a=0, thing=((0, ((0, 0),)),)), True)


class TestWays(Case):
    def test_examples(self):
        self.same(ways_right(M, (0,), (1, 2), ((0, 1, 2, 4), (1, 2, 5))), False)
        self.same(ways_right(M, (0,), (1, 2), ((0, 1, 2, 4), (0, 1, 2, 5))), True)

    def test_no_ways(self):
        for chart, lot in ((EMPTY, ()), (M, ()), (M, (0, 4)), (FULL60, tuple(range(60)))):
            self.same(ways_right(chart, lot, (), ()), True)
        self.same(ways_right(M, (0,), (), ((),)), False)
        self.same(ways_right(M, (), (), ((0, 1, 2, 4),)), False)

    def test_60_ways(self):
        whole = (60, tuple((0, b) for b in range(60)), tuple(range(60)))
        ways = tuple((0, b) for b in range(60))
        self.same(ways_right(whole, (0,), (), ways), True)
        self.same(ways_right(whole, (0,), (), ways[::-1]), True)
        self.same(ways_right(whole, (0, 7), (), ways), True)
        self.same(ways_right(whole, (1,), (), ways), False)
        self.same(ways_right(whole, (0,), (), ways + ((0, 7),)), False)

    def test_free_places(self):
        self.same(ways_right(M, (0,), (), ((0, 1, 2, 4), (0, 1, 3, 6))), False)
        self.same(ways_right(M, (0,), (1,), ((0, 1, 2, 4), (0, 1, 3, 6))), True)
        for free in NO_LOTS + ((1, 4), (4,)):
            self.same(ways_right(M, (0,), free, ()), free == (3,) or free == (0, 1, 3))
        for lot in NO_LOTS:
            self.same(ways_right(ANY, lot, (), ()), False)
            self.same(ways_right(ANY, (), lot, ()), False)
        self.same(ways_right(ANY, (2,), (2,), ()), False)

    def test_ways_that_come_back(self):
        ring = (4, ((0, 0), (0, 1), (1, 0), (1, 2), (1, 3)), (2, 3))
        # Unwished places of the lot may stand there again and again, in one way and in several ones.
        self.same(ways_right(ring, (0,), (1,), ((0, 0, 1, 0, 1, 2), (0, 1, 0, 0, 1, 3))), True)
        self.same(ways_right(ring, (0, 1), (), ((0, 1, 0, 1, 2), (1, 0, 1, 3))), True)
        self.same(ways_right(ring, (0,), (), ((0, 0, 1, 2),)), True)
        self.same(ways_right(ring, (0,), (), ((0, 1, 0, 1, 2),)), False)
        self.same(ways_right(ring, (1,), (), ((1, 0, 1, 2), (1, 3))), True)
        self.same(ways_right(ring, (1,), (), ((1, 0, 1, 2), (1, 0, 1, 3))), False)
        # Wished ones may not.
        self.same(ways_right(SELF, (0,), (), ((0, 0),)), True)
        self.same(ways_right(SELF, (0,), (), ((0, 0), (0, 0))), False)
        self.same(ways_right(SELF, (0,), (), ((0, 0, 0),)), False)
        long = (0,) * 1000 + (1,)
        self.same(ways_right((2, ((0, 0), (0, 1)), (1,)), (0,), (), (long,)), True)

    def test_wrong_ways(self):
        self.same(ways_right(FORK, (0,), (), ((0, 1, 2),)), True)
        for way in ((), (0,), (2,), (0, 2), (0, 1), (1, 2), (0, 1, 2, 3), (0, 1, 2, 2), (0, 1, 1, 2), (0, 0, 1, 2),
                    (0, True, 2), (False, 1, 2), ("0", 1, 2), (0, 1, None), (0, (1,), 2), (0, -3, 2), (0, 1, 4),
                    [0, 1, 2], None, "012", 5, True, ((0, 1, 2),)):
            self.same(ways_right(FORK, (0,), (1,), (way,)), False)
            self.same(ways_right(FORK, (0,), (1,), ((0, 1, 3), way)), False)
        for thing in ODD + ([(0, 1, 2)], (0, 1, 2), ((0, 1, 2), None)):
            self.same(ways_right(FORK, (0,), (1,), thing), False)
        for chart in NO_MAPS:
            self.same(ways_right(chart, (), (), ()), False)

    def test_what_share_returns(self):
        for chart in list(all_maps(2)) + list(some_maps(60, 3, 9, 231)):
            for lot in lots_of(range(chart[0]), 2):
                for free in lots_of([place for place in range(chart[0]) if place not in chart[2]], 1):
                    ways = share(chart, lot, free)
                    self.same(ways_right(chart, lot, free, ways), True)
                    self.same(ways_right(chart, lot, free, ways[::-1]), True)
                    self.same(ways_right(chart, lot, free, ways[1:]), True)
                    if ways:
                        self.same(ways_right(chart, lot, free, ways + ways[:1]), False)

    def test_spoiled_ways(self):
        chance = random.Random(232)
        told = collections.Counter()
        for chart in list(some_maps(60, 3, 7, 233)) + list(layered_maps(30, 4, 8, 234)):
            lot = some_lot(chance, range(chart[0]))
            free = some_lot(chance, [place for place in range(chart[0]) if place not in chart[2]])
            ways = share(chart, lot, free)
            for thing in spoiled(ways, chart):
                wanted = type(thing) is tuple and right_ways(chart, lot, free, len(thing), thing)
                self.same(ways_right(chart, lot, free, thing), wanted)
                told[wanted] += 1
        self.assertGreater(min(told[True], told[False]), 100)


class TestEndless(Case):
    def test_examples(self):
        self.same(endless_right(M5, 1, (0, 1), ((2, 2), ((2, 3), (2, 4)))), True)
        self.same(endless_right(M5, 1, (0, 1), ((0, 1), ((0, 2, 3), (1, 2, 4)))), False)
        self.same(endless_right(M6, 1, (0,), ((0,), ((0, 1, 2), (0, 1, 3)))), True)
        self.same(endless_right(M6, 1, (0,), ((1,), ((1, 2), (1, 3)))), False)

    def test_the_row(self):
        ways = ((2, 3), (2, 4))
        for row in ((0, 2), (2, 1), (2, 2)):
            self.same(endless_right(M5, 1, (0, 1), (row, ways)), True)
        # (1, 2) is not later, (2, 2, 2) and (2,) have other numbers of threads.
        for row in ((1, 2), (2, 0), (2,), (2, 2, 2), (3, 2), (2, 4), (2, 5), (True, 2), [2, 2], None, 2, "22", ()):
            self.same(endless_right(M5, 1, (0, 1), (row, ways)), False)
        self.same(endless_right(M6, 1, (1,), ((0,), ((1, 2), (1, 3)))), True)
        self.same(endless_right(M6, 1, (2,), ((2,), ((1, 2), (1, 3)))), False)
        self.same(endless_right(M, 1, (0,), ((2,), ((2, 4), (2, 5)))), True)
        self.same(endless_right(M, 1, (3,), ((2,), ((2, 4), (2, 5)))), False)
        # A wished place is later than itself alone.
        back = (3, ((0, 1), (1, 0), (1, 2)), (0, 2))
        self.same(endless_right(back, 0, (0,), ((0,), ((0, 1, 0),))), True)
        self.same(endless_right(back, 1, (0,), ((1,), ((1, 0), (1, 2)))), True)
        self.same(endless_right(back, 0, (1,), ((0,), ((0, 1, 0),))), False)

    def test_the_number_of_ways(self):
        ways = ((2, 4), (2, 5), (3, 6), (3, 7))
        for k in range(9):
            self.same(endless_right(M, k, (0, 0), ((2, 3), ways)), k == 3)
            self.same(endless_right(M, k, (0, 0), ((2, 3), ways[:3])), k == 2)
        self.same(endless_right(M, 3, (0, 0), ((2, 3), ways + ways[:1])), False)
        self.same(endless_right(M, 3, (0, 0), ((2, 3), ways[:3] + ways[:1])), False)
        self.same(endless_right(M, 3, (0, 0), ((2, 3), ways, ())), False)
        self.same(endless_right(M, 3, (0, 0), ((2, 3),)), False)

    def test_ways_that_come_back(self):
        self.same(endless_right(M6, 1, (0,), ((0,), ((0, 1, 0, 1, 2), (1, 0, 1, 3)))), True)
        # Nothing but members is shared, whatever the thread comes to.
        self.same(endless_right(M, 1, (0,), ((0,), ((0, 1, 2, 4), (0, 1, 3, 6)))), False)

    def test_spoiled_papers(self):
        chance = random.Random(235)
        told = collections.Counter()
        for chart in list(some_maps(60, 3, 6, 236)) + list(layered_maps(60, 4, 8, 237)):
            for threads in (1, 2, 3)[:1 + (chart[0] < 8)]:
                standing = chance.choice(standings_of(chart, threads))
                for k in (0, 1, 2):
                    paper = endless(chart, k, standing)
                    if paper is not None:
                        self.same(endless_right(chart, k, standing, (paper[0], paper[1][::-1])), True)
                        for thing in spoiled(paper, chart):
                            wanted = right_endless(chart, k, standing, thing)
                            self.same(endless_right(chart, k, standing, thing), wanted)
                            told[wanted] += 1
        self.assertGreater(min(told[True], told[False]), 30)

    def test_more_than_400_rows(self):
        ways = ((1, 5), (1, 6), (2, 7))
        self.same(endless_right(MANY, 2, (0, 3, 0), ((1, 4, 2), ways)), True)
        self.same(endless_right(MANY, 2, (0, 3, 0), ((1, 4, 1), ways)), False)
        self.same(endless_right(FULL60, 3, (0, 7, 7), ((49, 7, 9), ((49, 50), (49, 51), (49, 52), (49, 53)))), True)


class TestBook(Case):
    def test_examples(self):
        rows = ((0,), (1,), (2,), (3,))
        self.same(book_right(M, 2, (0,), tuple(zip(rows, ((2, 3), (2, 3), (4, 5), (6, 7)), (5, 4, 3, 0)))), True)
        self.same(book_right(M, 2, (0,), tuple(zip(rows, ((1,), (2, 3), (4, 5), (6, 7)), (1, 1, 0, 0)))), False)
        self.same(book_right(M, 2, (0,), tuple(zip(rows, ((2, 3), (2, 3), (4, 5), (6, 7)), (5, 1, 3, 0)))), False)
        self.same(book_right(M, 8, (0,), (((0,), (0, 4, 5, 6, 7), 0),)), False)

    def test_the_row_of_the_standing(self):
        right = (((0,), (4, 5, 6), 0),)
        for place in range(4):
            self.same(book_right(M2, 3, (place,), right), True)
        for place in (4, 5, 6):
            self.same(book_right(M2, 3, (place,), right), False)
        self.same(book_right(M2, 3, (0, 0), right), False)
        self.same(book_right(M2, 3, (0,), ()), False)
        self.same(book_right(M2, 3, (1,), (((1,), (4, 5, 6), 0),)), False)
        self.same(book_right(M2, 3, (1,), (((0,), (4, 5, 6), 0), ((1,), (4, 5, 6), 0))), False)

    def test_entries_that_are_not_met(self):
        right = book(M, 2, (0,))
        self.same(book_right(M, 2, (0,), right + (((4,), (), 0), ((7,), (0, 7), 12))), True)
        # They must be right, too: from 1 threads come to 2 and 3.
        self.same(book_right(M, 2, (0,), right[:1] + (((1,), (2, 3), 1),) + right[1:]), True)
        self.same(book_right(M, 2, (0,), right[:1] + (((1,), (2, 3), 0),) + right[1:]), False)
        self.same(book_right(M, 2, (0,), right[:1] + (((1,), (2,), 1),) + right[1:]), False)
        self.same(book_right(M, 2, (2,), right[1:2]), True)
        self.same(book_right(M, 2, (2,), (((1,), (2, 3), 1),) + right[1:2]), False)

    def test_traps(self):
        for traps in ((4, 5), (1, 4, 5), (0, 4, 5), (2, 4, 5), (4, 5, 6, 7)):
            self.same(book_right(M, 4, (2,), (((2,), traps, 0),)), True)
        for traps in ((), (4,), (2, 4), (5, 4), (4, 4, 5), (4, 5, 8), (-1, 4, 5), (True, 4, 5), [4, 5], None, 45, "45"):
            self.same(book_right(M, 4, (2,), (((2,), traps, 0),)), False)
        self.same(book_right(M, 2, (2,), (((2,), (1, 4, 5), 0),)), False)
        # A trap in the ring of a thread would be met again and again.
        self.same(book_right(M2, 4, (0,), (((0,), (0, 4, 5, 6), 9),)), False)

    def test_traps_where_a_thread_stands(self):
        # The trap at 1 does not stop the thread there, which may go on to 3; the other one is stopped by it.
        chart = (4, ((0, 1), (1, 2), (1, 3)), (2,))
        rest = (((1, 1), (2,), 0), ((1, 3), (2,), 0))
        self.same(book_right(chart, 2, (0, 1), (((0, 1), (1, 2), 1),) + rest), True)
        self.same(book_right(chart, 2, (0, 1), (((0, 1), (1, 2), 1),) + rest[:1]), False)
        self.same(book_right(chart, 2, (0, 1), (((0, 1), (1, 2), 1),) + rest[1:]), False)
        self.same(book_right(chart, 2, (0, 1), (((0, 1), (1, 2), 0),) + rest), False)

    def test_other_threads(self):
        # From 0 by 1 to the wished place 2; apart from that, from 3 to 4 to 5.
        chart = (6, ((0, 1), (1, 2), (3, 4), (4, 5)), (2,))
        ends = tuple(((1, place), (2,), 0) for place in (3, 4, 5))
        self.same(book_right(chart, 1, (0, 3), (((0, 3), (1,), 1),) + ends), True)
        for index in range(3):
            self.same(book_right(chart, 1, (0, 3), (((0, 3), (1,), 1),) + ends[:index] + ends[index + 1:]), False)
        # With a trap at 4 no thread comes to 5, and the one that is stopped there is seen.
        stops = (((0, 3), (1, 4), 2), ((0, 4), (2,), 0), ((1, 3), (2,), 0))
        self.same(book_right(chart, 2, (0, 3), stops), True)
        self.same(book_right(chart, 2, (0, 3), stops[:2]), False)
        self.same(book_right(chart, 2, (0, 3), stops[::2]), False)

    def test_numbers(self):
        right = (((0,), (2, 3), 1), ((2,), (4, 5), 0), ((3,), (6, 7), 0))
        for j in (1, 2, 3, 10 ** 30):
            self.same(book_right(M, 2, (0,), (((0,), (2, 3), j),) + right[1:]), True)
        for j in (0, -1, True, False, None, "1", (1,), (), 1.0):
            self.same(book_right(M, 2, (0,), (((0,), (2, 3), j),) + right[1:]), False)
            self.same(book_right(M, 2, (4,), (((4,), (), j),)), j == 0 and type(j) is int)
        for more in (1, 2, 100):
            self.same(book_right(M, 2, (0,), tuple((row, traps, j + more) for row, traps, j in right)), True)
        self.same(book_right(M, 2, (0,), right[:1] + (((2,), (4, 5), 1),) + right[2:]), False)

    def test_entries_are_in_order(self):
        right = book(M3, 2, (0,))
        self.same(book_right(M3, 2, (0,), right), True)
        for index in range(4):
            self.same(book_right(M3, 2, (0,), right[:index] + right[index + 1:]), False)
            self.same(book_right(M3, 2, (0,), right[:index + 1] + right[index:]), False)
        for index in range(3):
            swapped = right[:index] + (right[index + 1], right[index]) + right[index + 2:]
            self.same(book_right(M3, 2, (0,), swapped), False)

    def test_rows(self):
        right = book(M, 2, (0,))
        for row in ((4, 4), (), [4], (8,), (-1,), (True,), ("4",), None, 4, "4", ((4,),)):
            self.same(book_right(M, 2, (0,), right + ((row, (), 0),)), False)
        self.same(book_right(M2, 3, (0,), (((0,), (4, 5, 6), 0), ((3,), (4, 5, 6), 0))), False)

    def test_other_books(self):
        """Books with other numbers, and with entries for all standings that have a bound."""
        for chart in list(layered_maps(20, 5, 9, 238)) + list(spine_maps(30, 6, 9, 239)):
            reckoning = Reckoning(chart)
            for threads in (1, 2):
                rows = [row for row in standings_of(chart, threads) if reckoning.row(row) == row][::threads]
                whole = tuple((row, lay(chart, 2, row), bound(chart, 2, row)) for row in rows)
                whole = tuple(entry for entry in whole if entry[1] is not None)
                if threads == 1:
                    for row, _, j in whole:
                        self.same(book_right(chart, 2, row, whole), True)
                        fewer = tuple(entry for entry in whole if entry[2] < j or entry[0] == row)
                        self.same(book_right(chart, 2, row, fewer), True)
                for row, _, _ in whole:
                    right = book(chart, 2, row)
                    right = tuple((one, traps, 3 * j + 7) for one, traps, j in right)
                    self.same(book_right(chart, 2, row, right), True)

    def test_spoiled_books(self):
        chance = random.Random(240)
        told = collections.Counter()
        charts = list(some_maps(20, 3, 6, 241)) + list(spine_maps(40, 6, 7, 242)) + list(layered_maps(20, 4, 7, 243))
        for chart in charts:
            for threads in (1, 2, 3):
                standing = chance.choice(standings_of(chart, threads))
                paper = book(chart, 2, standing)
                if paper is not None and len(paper) < 9:
                    for thing in spoiled(paper, chart):
                        wanted = right_book(chart, 2, standing, thing)
                        self.same(book_right(chart, 2, standing, thing), wanted)
                        told[wanted] += 1
        self.assertGreater(min(told[True], told[False]), 100)

    def test_more_than_400_rows(self):
        rows = [(0, 3, 0)] + [(first, second, third) for first in (0, 1, 2) for second in (3, 4) for third in (0, 1, 2)]
        right = tuple((row, (5, 6, 7), 0) for row in sorted(set(rows)))
        self.same(book_right(MANY, 3, (0, 3, 0), right), True)
        self.same(book_right(MANY, 3, (0, 3, 0), (((0, 3, 0), (5, 6, 7), 0),)), True)
        self.same(book_right(MANY, 2, (0, 3, 0), right), False)
        ends = tuple((row, (4, 5, 6, 7) if row[1] == 3 else (5, 6, 7), 1 if row[1] == 3 else 0) for row, _, _ in right)
        self.same(book_right(MANY, 4, (0, 3, 0), ends), True)
        self.same(book_right(MANY, 4, (0, 3, 0), ends[:-1]), False)
        spine = book(SPINE, 2, (0,))
        lone = tuple(((59, row[0], 58), traps, j) for row, traps, j in spine)
        self.same(book_right(SPINE, 2, (59, 0, 58), lone), True)
        self.same(book_right(SPINE, 2, (59, 0, 58), lone[:-1]), False)
        self.same(book_right(RING60, 0, (9, 8, 7), (((0, 0, 0), (), 0),)), True)


class TestFloor(Case):
    WAYS = ((1, 2, 4), (1, 2, 5), (1, 3, 6))

    def test_examples(self):
        self.same(floor_right(M, 2, (0,), (((1,), 1, self.WAYS),)), True)

    def test_nothing_shown(self):
        for chart, standing in ((M, (0,)), (SELF, (0, 0)), (FULL60, (0, 1, 2))):
            self.same(floor_right(chart, 0, standing, ()), True)
        self.same(floor_right(EMPTY, 0, (0,), ()), False)
        self.same(floor_right(M, 0, (), ()), False)

    def test_the_number(self):
        # With two traps 2 and 3 have the number 0 here, so their places are free for the number 1 alone.
        for h in (0, 2, -1, True, False, None, "1", (1,), 1.0):
            self.same(floor_right(M, 2, (0,), (((1,), h, self.WAYS),)), False)
        self.same(floor_right(M, 2, (0,), (((0,), 1, tuple((0,) + way for way in self.WAYS)),)), True)
        self.same(floor_right(M, 2, (0,), (((0,), 2, tuple((0,) + way for way in self.WAYS)),)), False)
        right = floor(M3, 2, (0,))
        self.same([entry[:2] for entry in right], [((0,), 2), ((2,), 1)])
        self.same(floor_right(M3, 2, (0,), right), True)
        self.same(floor_right(M3, 2, (0,), right[:1]), False)
        self.same(floor_right(M3, 2, (0,), right[1:]), True)
        self.same(floor_right(M3, 2, (0,), ((right[0][0], 1, right[0][2]),)), True)
        self.same(floor_right(M3, 2, (0,), ((right[0][0], 3, right[0][2]), right[1])), False)

    def test_a_floor_where_there_is_no_bound(self):
        # In its own piece a place is free for any number.
        ways = ((0, 1, 4), (0, 2, 5), (0, 2, 3, 6))
        for h in (1, 2, 100):
            self.same(floor_right(M2, 2, (3,), (((0,), h, ways),)), True)
        self.same(floor_right(M2, 2, (3,), (((3,), 1, ways),)), False)

    def test_rows_are_later(self):
        self.same(floor_right(M, 2, (1,), (((1,), 1, self.WAYS),)), True)
        self.same(floor_right(M, 2, (2,), (((1,), 1, self.WAYS),)), False)
        self.same(floor_right(M, 2, (4,), (((1,), 1, self.WAYS),)), False)
        for row in ((1, 1), (), [1], (8,), (True,), None, 1, "1"):
            self.same(floor_right(M, 2, (0,), ((row, 1, self.WAYS),)), False)
        self.same(floor_right(M, 2, (0, 4), (((1, 4), 1, self.WAYS),)), True)
        self.same(floor_right(M, 2, (0, 4), (((1, 5), 1, self.WAYS),)), False)
        self.same(floor_right(M, 2, (4, 0), (((4, 1), 1, self.WAYS),)), True)

    def test_ways(self):
        for ways in (self.WAYS[:2], self.WAYS + ((1, 3, 7),), self.WAYS[:2] * 2, self.WAYS[:2] + self.WAYS[:1],
                     self.WAYS[:2] + ((1, 3),), self.WAYS[:2] + ((3, 6),), self.WAYS[:2] + ((1, 6),),
                     self.WAYS[:2] + ((0, 1, 3, 6),), self.WAYS[:2] + ((1, 3, 6, 6),), self.WAYS[:2] + ([1, 3, 6],),
                     self.WAYS[:2] + (None,), list(self.WAYS), None, "ways", ()):
            self.same(floor_right(M, 2, (0,), (((1,), 1, ways),)), False)
        for ways in (self.WAYS[::-1], ((1, 2, 4), (1, 3, 6), (1, 3, 7))):
            self.same(floor_right(M, 2, (0,), (((1,), 1, ways),)), True)
        four = self.WAYS + ((1, 3, 7),)
        self.same(floor_right(M, 3, (0,), (((1,), 1, four),)), True)

    def test_ways_that_come_back(self):
        loops = ((0, 0, 0, 1, 2, 4), (0, 0, 1, 2, 5), (0, 1, 3, 6))
        self.same(floor_right(M, 2, (0,), (((0,), 1, loops),)), True)

    def test_other_floors(self):
        """Floors with the ways in another order, with smaller numbers, and with fewer entries."""
        for chart in list(layered_maps(20, 5, 9, 244)) + list(spine_maps(40, 6, 10, 245)):
            for standing in standings_of(chart, 1):
                right = floor(chart, 2, standing) or ()
                self.same(floor_right(chart, 2, standing, tuple((row, h, ways[::-1]) for row, h, ways in right)), True)
                for many in range(4):
                    low = tuple((row, min(h, many), ways) for row, h, ways in right)
                    self.same(floor_right(chart, 2, standing, low), many > 0 or not right)
                    few = tuple((row, h, ways) for row, h, ways in right if h <= many)
                    self.same(floor_right(chart, 2, standing, few), True)

    def test_spoiled_floors(self):
        chance = random.Random(246)
        told = collections.Counter()
        for chart in list(spine_maps(80, 6, 7, 247)) + list(layered_maps(40, 4, 7, 248)):
            for threads in (1, 2, 3):
                standing = chance.choice(standings_of(chart, threads))
                paper = floor(chart, 2, standing)
                if paper and len(paper) < 9:
                    for thing in spoiled(paper, chart):
                        wanted = right_floor(chart, 2, standing, thing)
                        self.same(floor_right(chart, 2, standing, thing), wanted)
                        told[wanted] += 1
        self.assertGreater(min(told[True], told[False]), 100)

    def test_more_than_400_rows(self):
        ways = ((0, 1, 5), (0, 1, 6), (0, 2, 7))
        self.same(floor_right(MANY, 2, (0, 3, 0), (((0, 3, 0), 1, ways), ((0, 4, 0), 1, ways))), True)
        self.same(floor_right(MANY, 2, (0, 3, 0), (((0, 4, 0), 1, ways), ((0, 3, 0), 1, ways))), False)
        self.same(floor_right(MANY, 2, (0, 4, 0), (((0, 3, 0), 1, ways),)), False)
        self.same(floor_right(MANY, 2, (0, 3, 0), (((0, 3, 0), 2, ways),)), False)


class TestUnsafe(Case):
    def test_examples(self):
        self.same(unsafe_right(FORK, 1, 0, ((1, ((1, 2), (1, 3))), (0, ((0, 1, 2), (0, 1, 3))))), True)
        self.same(unsafe_right(FORK, 1, 0, ((0, ((0, 1, 2), (0, 1, 3))),)), False)

    def test_the_order_of_the_pairs(self):
        # Of M with one trap 1, 2 and 3 go first, 0 goes behind them.
        ones = ((1, ((1, 2, 4), (1, 3, 6))), (2, ((2, 4), (2, 5))), (3, ((3, 6), (3, 7))))
        last = (0, ((0, 1, 2, 4), (0, 1, 3, 6)))
        self.same([place for place, _ in unsafe(M, 1, 0)], [1, 2, 3, 0])
        self.same(unsafe_right(M, 1, 0, ones + (last,)), True)
        self.same(unsafe_right(M, 1, 0, ones[::-1] + (last,)), True)
        self.same(unsafe_right(M, 1, 0, ones[:1] + (last,)), True)
        self.same(unsafe_right(M, 1, 0, ones[1:] + (last,)), False)
        self.same(unsafe_right(M, 1, 0, (last,) + ones), False)
        self.same(unsafe_right(M, 1, 3, ones), True)
        self.same(unsafe_right(M, 1, 2, ones), False)
        self.same(unsafe_right(M, 1, 3, ones + ones[2:]), False)

    def test_wished_places(self):
        # Place 0 is wished: it may stand at the end, and nowhere else.
        chart = (3, ((0, 1), (0, 2), (1, 0), (1, 2)), (0, 2))
        self.same(unsafe_right(chart, 1, 1, ((1, ((1, 0), (1, 2))),)), True)
        self.same(unsafe_right(chart, 1, 0, ((1, ((1, 0), (1, 2))), (0, ((0, 1, 0), (0, 2))))), True)
        self.same(unsafe_right(chart, 1, 0, ((0, ((0, 1, 0), (0, 2))),)), True)
        self.same(unsafe_right(chart, 1, 1, ((0, ((0, 1, 0), (0, 2))), (1, ((1, 0), (1, 2))))), False)
        self.same(unsafe_right(SELF, 0, 0, ((0, ((0, 0),)),)), True)

    def test_ways_that_come_back_to_their_place(self):
        self.same(unsafe_right(M2, 1, 0, ((0, ((0, 1, 4), (0, 2, 3, 0, 2, 5))),)), False)
        ring = (4, ((0, 0), (0, 1), (0, 2), (1, 0), (1, 3)), (2, 3))
        self.same(unsafe_right(ring, 1, 0, ((0, ((0, 0, 0, 2), (0, 0, 1, 3))),)), True)
        self.same(unsafe_right(ring, 1, 0, ((0, ((0, 1, 0, 2), (0, 1, 3))),)), False)
        self.same(unsafe_right(SELF, 0, 0, ((0, ((0, 0, 0),)),)), False)

    def test_the_number_of_ways(self):
        ways = ((2, 4), (2, 5))
        for k in range(9):
            self.same(unsafe_right(M, k, 2, ((2, ways),)), k == 1)
            self.same(unsafe_right(M, k, 2, ((2, ways[:1]),)), k == 0)
        self.same(unsafe_right(M, 2, 2, ((2, ways + ways[:1]),)), False)

    def test_safe_places(self):
        for thing in ODD + ((), ((0, ((0, 1),)),)):
            self.same(unsafe_right(CHAIN, 1, 0, thing), False)

    def test_spoiled_papers(self):
        told = collections.Counter()
        for chart in list(some_maps(60, 3, 7, 249)) + list(layered_maps(40, 4, 8, 250)):
            for k in (0, 1, 2):
                for a in range(chart[0]):
                    paper = unsafe(chart, k, a)
                    if paper is not None and len(paper) < 5:
                        for thing in spoiled(paper, chart):
                            wanted = right_unsafe(chart, k, a, thing)
                            self.same(unsafe_right(chart, k, a, thing), wanted)
                            told[wanted] += 1
        self.assertGreater(min(told[True], told[False]), 100)
