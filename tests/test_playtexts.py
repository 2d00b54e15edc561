import random

from fewtraps.errors import BadNumber, BadPlay, BadText, TooMany, Twice
from fewtraps.playtexts import print_play, read_play
from tests.cases import Case
from tests.runs import KEPT
from tests.texts import (
    PlainPlay, ReaderCase, checks_signs, outcome, plain_read, printed, spaced, spoiled, words_of_play)


def some_plays(count, seed):
    """Yield tuples of entries in any order, with any numbers."""
    chance = random.Random(seed)
    for _ in range(count):
        most = chance.choice((3, 60, 9999))
        play = []
        for _ in range(chance.randrange(9)):
            if chance.random() < 0.5:
                play.append(("lay", tuple(sorted(chance.sample(range(most + 1), chance.randrange(4))))))
            else:
                play.append(("go", chance.randint(0, most), chance.randint(0, most)))
        yield tuple(play)


class TestReadPlay(ReaderCase):
    read = staticmethod(read_play)
    grammar = PlainPlay

    def test_examples(self):
        self.good((("lay", (1, 3)), ("go", 0, 2)), "lay 3 1; go 0 2")
        self.bad(Twice, 6, "lay 3 3")
        self.bad(BadText, 4, "go 0")
        self.bad(BadNumber, 4, "lay 12345")
        self.bad(BadText, 4, "lay x")

    def test_nothing(self):
        for text in ("", " ", " " * 50):
            self.good((), text)

    def test_entries(self):
        self.good((("lay", ()),), "lay")
        self.good((("lay", ()), ("lay", ()), ("go", 0, 0)), " lay;lay ;go 0 0 ")
        self.good((("go", 9999, 9999), ("lay", (0, 9, 10, 9999))), "go 9999 9999;lay 9999 10 9 0")
        self.good((("lay", (1,)), ("lay", (1,))), "lay 1; lay 1")
        self.good((("lay", tuple(range(3000))),), "lay " + " ".join(str(number) for number in range(2999, -1, -1)))

    def test_numbers(self):
        for text, place in (("lay %s", 4), ("lay 1 2 %s", 8), ("go %s 1", 3), ("go 1 %s", 5), ("lay; go 0 %s", 10)):
            for number in (10000, 12345, 99999, 10 ** 40):
                self.bad(BadNumber, place, text % number)
                self.bad(BadNumber, place, text % number + " ; A")
            for number in (1000, 9999, 0, 7):
                self.same(outcome(read_play, text % number)[0], "value")
            for word in ("00", "01", "x", "-1", "go", "A", ","):
                self.bad(BadText, place, text % word)
        self.bad(Twice, 10, "lay 5 7 3 7 A")
        self.bad(Twice, 9, "lay 9999 9999")
        self.bad(Twice, 6, "lay 1 1 10000")
        self.bad(BadNumber, 6, "lay 1 10000 1")

    def test_as_many_entries_as_are_let(self):
        for entry in ("lay", "go 1 2"):
            text = ";".join([entry] * 2000)
            self.same(len(read_play(text)), 2000)
            for more in ("lay", "go", "go A", "lay 1 1", "go 10000"):
                self.bad(TooMany, len(text) + 2, text + "; " + more)
            self.bad(BadText, len(text) + 2, text + "; x")
            self.bad(BadText, len(text) + 1, text + ";")

    def test_texts_that_end_in_the_middle(self):
        for text in ("go", "go 1", "lay;", "lay 1 2;", "go 1 2;", "lay; go", "lay; go 0", ";", "lay;;"):
            end = {";": 0, "lay;;": 4}.get(text)
            for blanks in ("", "  "):
                self.bad(BadText, len(text + blanks) if end is None else end, text + blanks)
        for word in KEPT + [",", ":", "1", "x", "="]:
            if word not in ("lay", "go"):
                self.bad(BadText, 0, word)
                self.bad(BadText, 5, "lay; " + word)
            if word != "1":
                self.bad(BadText, 4, "lay " + word)
                self.bad(BadText, 3, "go " + word)
                self.bad(BadText, 5, "go 1 " + word)
            self.bad(BadText, 7, "go 1 2 " + word)

    def test_signs(self):
        checks_signs(self, read_play, "lay 1 2; go 0 1")

    def test_texts_right_and_wrong(self):
        chance = random.Random(491)
        told = {}
        for play in some_plays(250, 492):
            words = words_of_play(play)
            for tries in range(20):
                text = spaced(chance, spoiled(chance, words) if tries and words else words)
                found = outcome(read_play, text)
                self.same(found, plain_read(text, PlainPlay()))
                told[found[0]] = told.get(found[0], 0) + 1
                if found[0] == "value":
                    self.plain(found[1], str)
                    self.same(read_play(print_play(found[1])), found[1])
        for word in ("value", "BadText", "BadNumber", "Twice"):
            self.assertGreater(told[word], 15, told)

    def test_by_names(self):
        self.same(self.by_names(read_play, text="lay 1"), (("lay", (1,)),))


class TestPrintPlay(Case):
    def bad(self, what, play):
        self.refused(BadPlay, what, print_play, play)

    def test_examples(self):
        self.same(print_play((("lay", ()), ("go", 1, 20))), "lay; go 1 20")
        self.same(print_play(()), "")

    def test_plays(self):
        for play in list(some_plays(400, 493)) + [(("go", 1, 2),) * 2000, (("lay", tuple(range(3000))),)]:
            text = print_play(play)
            self.same(text, printed(words_of_play(play)))
            self.same(read_play(text), play)
            self.same(print_play(play), text)
        # A text may be longer than a reader takes.
        self.assertGreater(len(print_play((("lay", tuple(range(10000))),))), 20000)
        self.same(print_play((("lay", (0, 9999)),)), "lay 0 9999")

    def test_what_is_no_tuple_of_entries(self):
        for thing in (None, 0, True, "", "lay", [], [("lay", ())], {}, (("lay", ()),) * 2001, (None,) * 3000):
            self.bad(-1, thing)

    def test_wrong_entries(self):
        for entry in (None, 0, True, "", "lay", "go", (), ("lay",), ("go",), ("lay", (), ()), ("go", 1),
                      ("go", 1, 2, 3), ["lay", ()], ["go", 1, 2], ("on", ()), ("Lay", ()), ("go ", 1, 2), (1, 2, 3),
                      (None, ()), ("go", ()), ("lay", 1, 2), (("lay",), ())):
            self.bad(0, (entry,))
            self.bad(2, (("lay", (1,)), ("go", 0, 1), entry, None))
        for traps in (None, 1, "1", [1], (1, 1), (2, 1), (10000,), (0, 12345), (-1,), (True,), (0, True), (False,),
                      ("1",), ((1,),), (None,), (0.0,)):
            self.bad(0, (("lay", traps),))
            self.bad(2, (("lay", (1,)), ("go", 0, 1), ("lay", traps), None))
        for number in (-1, 10000, 10 ** 9, True, False, None, "1", (), (1,), [1], 1.0):
            self.bad(0, (("go", number, 1),))
            self.bad(1, (("lay", ()), ("go", 1, number)))
            self.bad(0, (("go", number, number), ("go", 1)))
        self.bad(1999, (("lay", ()),) * 1999 + (("go", 0, True),))

    def test_by_names(self):
        self.same(self.by_names(print_play, play=(("go", 0, 1),)), "go 0 1")
