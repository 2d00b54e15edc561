import random

from fewtraps.errors import BadMap, BadNumber, BadText, BadWish, NoPlace, TooMany, Twice
from fewtraps.maps import made_map
from fewtraps.maptexts import print_map, read_map
from tests.cases import CHAIN60, EMPTY, FULL60, NO_MAPS, RING60, SELF, Case, M, M3, all_maps, some_maps
from tests.runs import KEPT
from tests.texts import PlainMap, ReaderCase, checks_signs, outcome, plain_read, printed, spaced, spoiled, words_of_map


class TestReadMap(ReaderCase):
    read = staticmethod(read_map)
    grammar = PlainMap

    def test_examples(self):
        self.good((3, ((0, 1), (2, 0)), (2,)), "places 3; roads 2 0,0 1; wished 2")
        self.bad(BadNumber, 7, "places 61; roads; wished")
        self.bad(NoPlace, 18, "places 2; roads 0 2; wished")
        self.bad(Twice, 23, "places 2; roads 0 1, 0 1; wished")
        self.bad(Twice, 26, "places 2; roads; wished 1 1")

    def test_maps_without_roads_or_wished_places(self):
        self.good(EMPTY, "places 0; roads; wished")
        self.good(EMPTY, " places 0 ;roads;  wished ")
        self.good((2, (), (0, 1)), "places 2;roads;wished 1 0")
        self.good((2, ((0, 0),), ()), "places 2;roads 0 0;wished")
        self.good(SELF, "places 1; roads 0 0; wished 0")
        self.bad(NoPlace, 16, "places 0; roads 0 0; wished")
        self.bad(NoPlace, 24, "places 0; roads; wished 0")

    def test_any_order(self):
        self.good((3, ((0, 2), (1, 0), (1, 1), (2, 0)), (0, 1, 2)), "places 3; roads 1 1, 2 0, 0 2, 1 0; wished 2 0 1")
        roads = [(a, b) for a in range(15) for b in range(16)]
        chance = random.Random(481)
        for _ in range(5):
            told = chance.sample(roads, 240)
            wished = chance.sample(range(60), 60)
            self.good((60, tuple(roads), tuple(range(60))), "places 60; roads %s; wished %s" % (
                ", ".join("%d %d" % road for road in told), " ".join(map(str, wished))))

    def test_number_of_places(self):
        for many in range(61):
            self.good((many, (), ()), "places %d; roads; wished" % many)
        for many in (61, 62, 99, 100, 600, 9999, 10000, 99999, 10 ** 30):
            self.bad(BadNumber, 8, "places  %d; roads; wished" % many)
            self.bad(BadNumber, 7, "places %d no" % many)
        for word in ("00", "060", "x", "-1", "roads", ";", ""):
            self.bad(BadText, 7, "places %s; roads; wished" % word if word else "places ")

    def test_as_many_roads_as_are_let(self):
        roads = ", ".join("%d %d" % (a, b) for a in range(15) for b in range(16))
        begun = "places 60; roads " + roads
        self.same(len(read_map(begun + "; wished")[1]), 240)
        for more in ("59 59; wished", "0 0; wished", "60 0; wished", "9999 1", "59", "59 A", "0 10000"):
            self.bad(TooMany, len(begun) + 2, begun + ", " + more)
        for more in ("10000 1", "99999"):
            self.bad(BadNumber, len(begun) + 2, begun + ", " + more)
        self.bad(BadText, len(begun) + 2, begun + ", ; wished")
        self.bad(BadText, len(begun) + 1, begun + ",")

    def test_questions_of_roads(self):
        self.bad(NoPlace, 16, "places 2; roads 2 0; wished")
        self.bad(NoPlace, 16, "places 2; roads 2 A; wished")
        self.bad(NoPlace, 16, "places 2; roads 9999 2; wished")
        self.bad(BadNumber, 16, "places 2; roads 10000 2; wished")
        self.bad(BadNumber, 18, "places 2; roads 1 10000; wished")
        self.bad(NoPlace, 18, "places 2; roads 1 60 1; wished")
        self.bad(Twice, 28, "places 2; roads 0 1, 1 0, 0 1 A")
        self.bad(BadText, 20, "places 2; roads 0 1 1; wished")
        self.good((2, ((0, 1), (1, 0)), ()), "places 2; roads 1 0, 0 1; wished")
        self.good((2, ((0, 0), (1, 1)), ()), "places 2; roads 1 1, 0 0; wished")

    def test_questions_of_wished_places(self):
        self.bad(NoPlace, 24, "places 2; roads; wished 2")
        self.bad(NoPlace, 26, "places 2; roads; wished 1 2 1")
        self.bad(Twice, 28, "places 2; roads; wished 1 0 1 A")
        self.bad(BadNumber, 24, "places 2; roads; wished 10000")
        self.bad(BadText, 25, "places 2; roads; wished 1, 0")
        self.bad(BadText, 25, "places 2; roads; wished 1;")
        self.bad(BadText, 24, "places 2; roads; wished 01")

    def test_texts_that_end_in_the_middle(self):
        for text in ("", "places", "places 2", "places 2;", "places 2; roads", "places 2; roads 0",
                     "places 2; roads 0 1",
                     "places 2; roads 0 1,", "places 2; roads 0 1, 1", "places 2; roads;"):
            for blanks in ("", "  "):
                self.bad(BadText, len(text + blanks), text + blanks)
        for word in KEPT:
            if word != "places":
                self.bad(BadText, 0, word + " 2; roads; wished")
            if word != "roads":
                self.bad(BadText, 10, "places 2; " + word + "; wished")
            if word != "wished":
                self.bad(BadText, 17, "places 2; roads; " + word)
        self.bad(BadText, 16, "places 2; roads , 0 1; wished")
        self.bad(BadText, 15, "places 2; roads: 0 1; wished")

    def test_signs(self):
        checks_signs(self, read_map, "places 2; roads 0 1; wished 1")

    def test_texts_right_and_wrong(self):
        chance = random.Random(482)
        told = {}
        for chart in list(some_maps(150, 2, 7, 483)) + [EMPTY, SELF, M, M3, CHAIN60, RING60, FULL60]:
            words = words_of_map(chart)
            for tries in range(40 if len(words) < 100 else 10):
                text = spaced(chance, spoiled(chance, words) if tries else words)
                found = outcome(read_map, text)
                self.same(found, plain_read(text, PlainMap()))
                told[found[0]] = told.get(found[0], 0) + 1
                if found[0] == "value":
                    self.same(self.plain(made_map(found[1])), found[1])
        for word in ("value", "BadText", "BadNumber", "NoPlace", "Twice"):
            self.assertGreater(told[word], 15, told)

    def test_by_names(self):
        self.same(self.by_names(read_map, text="places 1; roads; wished 0"), (1, (), (0,)))


class TestPrintMap(Case):
    def test_examples(self):
        self.same(print_map((3, ((0, 1), (2, 0)), (2,))), "places 3; roads 0 1, 2 0; wished 2")
        self.same(print_map((0, (), ())), "places 0; roads; wished")

    def test_maps(self):
        charts = [EMPTY, SELF, M, M3, CHAIN60, RING60, FULL60, (60, (), tuple(range(60)))]
        for chart in charts + list(all_maps(2)) + list(some_maps(200, 2, 12, 484)):
            text = print_map(chart)
            self.same(text, printed(words_of_map(chart)))
            self.same(read_map(text), chart)
            self.same(print_map(chart), text)

    def test_what_is_no_map(self):
        for thing in NO_MAPS:
            with self.assertRaises((BadMap, BadWish)) as caught:
                print_map(thing)
            with self.assertRaises(type(caught.exception)) as again:
                made_map(thing)
            self.same(caught.exception.what, again.exception.what)
        self.refused(BadMap, 0, print_map, (2, ((0, 2),), 5))
        self.refused(BadWish, 1, print_map, (2, ((0, 1),), (1, 1)))

    def test_by_names(self):
        self.same(self.by_names(print_map, chart=SELF), "places 1; roads 0 0; wished 0")
