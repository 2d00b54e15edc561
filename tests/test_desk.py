import itertools
import random

from fewtraps.desk import Desk
from fewtraps.errors import (
    BadName, BadNumber, BadPlace, BadProgram, NothingToRedo, NothingToUndo, NotWished, TooMany, Twice)
from fewtraps.readprogram import read_program
from tests.cases import NO_COUNTS, Case
from tests.desks import PlainDesk
from tests.runs import ECHO, EVERY, KEPT, forward_programs, some_programs
from tests.texts import NO_TEXTS, outcome, random_word, spaced, spoiled

NO_NAMES = (None, 0, True, "", "A", "1a", "a_b", "a b", " a", "go", "wish", "none", "a" * 13, ("a",), ["a"], "a\n",
            "\u00e9")
NO_ROWS = (-1, 5, 60, True, False, None, "s", "0", "", (), (0,), [0], 0.0)
# 20 rows without roads, the last ones with labels, so that the size for two threads is just 400.
TWENTY = ((), ("",) * 18 + ("y", "z"), (("end",),) * 20)


def told_by(desk, rows=5):
    """Return all that the methods of a desk tell."""
    return desk.wished(), desk.map(), [desk.hands_of(place) for place in range(rows)]


class DeskCase(Case):
    def answers(self, desk, *rows):
        """Expect these answers, told by turns with the rows."""
        for text, answer in zip(rows[::2], rows[1::2]):
            self.same(desk.row(text), answer)


class TestExample(DeskCase):
    def test_example(self):
        desk = Desk(read_program("s: x = ask; if x = y go e; go s; e: y = x + x; go s"), 1)
        self.answers(desk, "writes y", "e", "ann wish e", "ok", "ann wish 3", "refused Twice", "bob strike e",
                     "refused NotWished", "wished", "e", "pieces", "s 1 2; 4", "walls", "s 1 2: 1; 4: 1", "bound s",
                     "0", "lay s 4", "e", "curve s", "none 0 0 0 0 0 0 0 0", "safe s", "yes", "safe t",
                     "refused NoName")
        self.same(desk.hands_of(3), ("ann",))
        self.answers(desk, "ann undo", "ok", "wished", "nothing", "pieces", "s 1 2 e 4")


class TestWishes(DeskCase):
    def test_wish_and_strike(self):
        desk = Desk(ECHO, 1)
        self.same(told_by(desk), ((), (5, desk.map()[1], ()), [()] * 5))
        self.same(desk.wish("bob", 3), None)
        self.same(desk.wish("ann", 3), None)
        self.same(desk.wish("ann", 0), None)
        self.same(told_by(desk), ((0, 3), (5, desk.map()[1], (0, 3)), [("ann",), (), (), ("ann", "bob"), ()]))
        self.same(desk.strike("bob", 3), None)
        self.same((desk.wished(), desk.hands_of(3)), ((0, 3), ("ann",)))
        self.same(desk.strike("ann", 3), None)
        self.same((desk.wished(), desk.hands_of(3), desk.hands_of(0)), ((0,), (), ("ann",)))

    def test_errors_in_their_order(self):
        desk = Desk(ECHO, 1)
        desk.wish("ann", 3)
        before = told_by(desk)
        for hand in NO_NAMES:
            for place in (0, 3, 7, None):
                self.refused(BadName, hand, desk.wish, hand, place)
                self.refused(BadName, hand, desk.strike, hand, place)
            self.refused(BadName, hand, desk.undo, hand)
            self.refused(BadName, hand, desk.redo, hand)
        for place in NO_ROWS:
            for hand in ("ann", "bob"):
                self.refused(BadPlace, place, desk.wish, hand, place)
                self.refused(BadPlace, place, desk.strike, hand, place)
            self.refused(BadPlace, place, desk.hands_of, place)
        self.refused(Twice, 0, desk.wish, "ann", 3)
        for place in (0, 1, 2, 4):
            self.refused(NotWished, 0, desk.strike, "ann", place)
        self.refused(NotWished, 0, desk.strike, "bob", 3)
        for hand in ("bob", "a" * 12, "z9"):
            self.refused(NothingToUndo, hand, desk.undo, hand)
            self.refused(NothingToRedo, hand, desk.redo, hand)
        self.refused(NothingToRedo, "ann", desk.redo, "ann")
        self.same(told_by(desk), before)
        for word in KEPT:
            self.refused(BadName, word, desk.wish, word, 0)

    def test_as_many_hands_as_are_let(self):
        desk = Desk(ECHO, 1)
        hands = ["h" + str(number) for number in range(20)]
        for hand in hands[:19]:
            desk.wish(hand, 0)
        # A refused wish, a strike and an undo do not make a hand that has wished.
        for number in range(30):
            self.refused(NotWished, 0, desk.strike, "x" + str(number), 0)
            self.refused(BadPlace, 5, desk.wish, "x" + str(number), 5)
            self.refused(NothingToUndo, "x" + str(number), desk.undo, "x" + str(number))
        desk.wish(hands[19], 1)
        before = told_by(desk)
        for place in range(5):
            self.refused(TooMany, 21, desk.wish, "x", place)
            self.same(desk.row("x wish " + str(place)), "refused TooMany")
        self.refused(BadPlace, 5, desk.wish, "x", 5)
        self.refused(NotWished, 0, desk.strike, "x", 0)
        self.same(told_by(desk), before)
        # A hand that has struck or taken back all it wished still counts, and can wish again.
        desk.strike("h0", 0)
        desk.undo("h1")
        self.refused(TooMany, 21, desk.wish, "x", 0)
        desk.wish("h0", 4)
        desk.wish("h1", 4)
        self.refused(Twice, 0, desk.wish, "h1", 4)
        self.same(desk.hands_of(4), ("h0", "h1"))
        self.same(desk.hands_of(0), tuple(sorted(hands[2:19])))

    def test_slots(self):
        desk = Desk(ECHO, 1)
        desk.wish("ann", 3)
        desk.wish("ann", 4)
        self.same([desk.row("bound s"), desk.slots(0), desk.row("bound s"), desk.slots(8), desk.row("bound s")],
                  ["0", None, "none", None, "0"])
        for k in NO_COUNTS:
            self.refused(BadNumber, k, desk.slots, k)
            self.refused(BadNumber, k, Desk, ECHO, k)
        self.same(desk.row("curve s"), "none 0 0 0 0 0 0 0 0")
        desk.slots(0)
        desk.undo("ann")
        self.same((desk.row("bound s"), desk.wished()), ("none", (3,)))
        for what, thing in ((-1, None), (4, ECHO[:2] + (ECHO[2][:4] + (("ask", 0),),))):
            self.refused(BadProgram, what, Desk, thing, 9)


class TestUndo(DeskCase):
    def test_undo_and_redo(self):
        desk = Desk(ECHO, 1)
        desk.wish("ann", 3)
        desk.wish("ann", 0)
        desk.strike("ann", 3)
        told = []
        for method in (desk.undo, desk.undo, desk.undo, desk.redo, desk.redo, desk.undo, desk.redo, desk.redo):
            self.same(method("ann"), None)
            told.append(desk.wished())
        self.same(told, [(0, 3), (3,), (), (3,), (0, 3), (3,), (0, 3), (0,)])
        self.refused(NothingToRedo, "ann", desk.redo, "ann")
        for _ in range(3):
            desk.undo("ann")
        self.refused(NothingToUndo, "ann", desk.undo, "ann")
        self.same(desk.wished(), ())

    def test_a_new_deed_leaves_nothing_to_redo(self):
        for deed in ("wish", "strike"):
            desk = Desk(ECHO, 1)
            desk.wish("ann", 1)
            desk.wish("ann", 2)
            desk.undo("ann")
            getattr(desk, deed)("ann", 4 if deed == "wish" else 1)
            self.refused(NothingToRedo, "ann", desk.redo, "ann")
            desk.undo("ann")
            self.same(desk.wished(), (1,))
            desk.redo("ann")
            self.same(desk.wished(), (1, 4) if deed == "wish" else ())

    def test_a_refused_deed_leaves_what_there_is_to_redo(self):
        desk = Desk(ECHO, 1)
        desk.wish("ann", 1)
        desk.wish("ann", 2)
        desk.undo("ann")
        self.refused(Twice, 0, desk.wish, "ann", 1)
        self.refused(NotWished, 0, desk.strike, "ann", 2)
        self.refused(BadPlace, 5, desk.wish, "ann", 5)
        self.answers(desk, "ann wish 1", "refused Twice", "ann strike 2", "refused NotWished", "ann wish",
                     "refused BadText", "slots 9", "refused BadNumber", "slots 3", "ok", "ann redo", "ok", "wished",
                     "1 2")

    def test_hands_do_not_touch_each_other(self):
        desk = Desk(ECHO, 1)
        desk.wish("ann", 1)
        desk.wish("bob", 1)
        desk.wish("bob", 2)
        desk.undo("bob")
        desk.strike("ann", 1)
        self.same((desk.wished(), desk.hands_of(1)), ((1,), ("bob",)))
        desk.redo("bob")
        desk.undo("ann")
        self.same((desk.wished(), desk.hands_of(1)), ((1, 2), ("ann", "bob")))
        desk.undo("ann")
        self.refused(NothingToUndo, "ann", desk.undo, "ann")
        self.same((desk.wished(), desk.hands_of(1)), ((1, 2), ("bob",)))

    def test_more_than_a_hundred_deeds(self):
        for many in (99, 100, 101, 102, 150, 201):
            desk = Desk(TWENTY, 1)
            plain = PlainDesk(TWENTY, 1)
            for number in range(many):
                place = number % 20
                word = "wish" if number % 40 < 20 else "strike"
                self.same(getattr(desk, word)("ann", place), plain.deed(word, "ann", place))
            desk.wish("bob", 7)
            plain.deed("wish", "bob", 7)
            for turn in range(3):
                for _ in range(min(many, 100)):
                    self.same(desk.undo("ann"), plain.undo("ann"))
                    self.same(desk.wished(), plain.wished())
                self.refused(NothingToUndo, "ann", desk.undo, "ann")
                for _ in range(min(many, 100)):
                    self.same(desk.redo("ann"), plain.redo("ann"))
                self.same(desk.wished(), plain.wished())
                self.refused(NothingToRedo, "ann", desk.redo, "ann")
            # What has been taken back does not count until it is done again.
            for _ in range(min(many, 100)):
                desk.undo("ann"), plain.undo("ann")
            for _ in range(30):
                desk.redo("ann"), plain.redo("ann")
            place = min(set(range(20)) - set(desk.wished()) | ({7} if "ann" not in desk.hands_of(7) else set()))
            self.same(desk.wish("ann", place), plain.deed("wish", "ann", place))
            for _ in range(31):
                desk.undo("ann"), plain.undo("ann")
            self.refused(NothingToUndo, "ann", desk.undo, "ann")
            self.same(desk.wished(), plain.wished())


class TestRow(DeskCase):
    def bad(self, desk, name, *rows):
        before = told_by(desk, len(desk.program[2]))
        for text in rows:
            self.same(desk.row(text), "refused " + name)
        self.same(told_by(desk, len(desk.program[2])), before)

    def test_each_row(self):
        desk = Desk(EVERY, 2)
        self.answers(desk, "wished", "nothing", "pieces", "s 1 t 3 c 5; 6; u", "walls", "s 1 t 3 c 5: 0; 6: 0; u: 0",
                     "writes a", "s", "writes b2", "1", "writes c", "t", "enough s", "0", "bound 0 6 7", "0", "lay s",
                     "nothing", "curve s u", "0 0 0 0 0 0 0 0 0", "safe u", "yes", "ann wish c", "ok", "bob wish 4",
                     "ok", "bob wish u", "ok", "wished", "c u", "ann strike c", "ok", "wished", "c u", "bob undo", "ok",
                     "wished", "c", "bob redo", "ok", "slots 0", "ok", "bound s", "none", "lay s", "none", "safe 0",
                     "no", "curve s", "none none 0 0 0 0 0 0 0", "lay u", "nothing", "enough s", "2", "slots 2", "ok",
                     "lay s u", "c u", "bound 6 6", "0", "bound 6 6 6", "refused TooMany", "pieces", "s; 1; t; 3; 5; 6",
                     "walls", "s: 1; 1: 1; t: 1; 3: 2; 5: 2; 6: 1")
        for place in range(8):
            desk.row("cid wish " + str(place))
        self.answers(desk, "pieces", "nothing", "walls", "nothing", "wished", "s 1 t 3 c 5 6 u", "lay 3", "c u",
                     "curve 5", "none none none 0 0 0 0 0 0")
        self.answers(Desk(ECHO, 1), "writes y", "e", "writes x", "s")
        self.answers(Desk((("x", "y"), ("", ""), (("ask", 1), ("end",))), 1), "writes x", "nothing", "writes y", "0")

    def test_blanks(self):
        desk = Desk(ECHO, 1)
        self.answers(desk, "   ann    wish   e ", "ok", " wished ", "e", "lay   s  4", "e", "annwish e",
                     "refused BadText", "ann wishe", "refused BadText", "ann wish e;", "refused BadText", "slots 0 1",
                     "refused BadText", "slots 01", "refused BadText")

    def test_labels_and_numbers(self):
        desk = Desk((("s",), ("a", "", "a1", "s"), (("ask", 0), ("ask", 0), ("ask", 0), ("switch", 0, (0, 2)))), 1)
        self.answers(desk, "s wish s", "ok", "a wish a", "ok", "a wish 2", "ok", "wished", "a a1 s", "pieces", "1",
                     "lay 1", "a1", "writes s", "a 1 a1", "s wish 3", "refused Twice", "a1 wish 1", "ok")
        self.same([desk.hands_of(place) for place in range(4)], [("a",), ("a1",), ("a",), ("s",)])

    def test_places_that_are_not_there(self):
        desk = Desk(ECHO, 1)
        for begun in ("ann wish ", "ann strike ", "safe ", "enough ", "bound ", "lay ", "curve ", "bound s ",
                      "lay 1 e "):
            self.bad(desk, "NoName", begun + "t", begun + "x", begun + "wished1", begun + "t ?", begun + "t s s s s")
            self.bad(desk, "NoPlace", begun + "5", begun + "9999", begun + "60 ?", begun + "5 t")
            self.bad(desk, "BadNumber", begun + "10000", begun + "12345 ?")
            self.bad(desk, "BadText", begun + "A", begun + "00", begun + "go", begun + ";")
        self.bad(desk, "BadText", "ann wish ", "ann strike", "safe", "enough", "bound", "lay", "curve ")
        for begun in ("enough ", "bound ", "lay ", "curve "):
            self.bad(desk, "TooMany", begun + "s s s s", begun + "0 1 2 3", begun + "0 1 2 t", begun + "0 1 2 5",
                     begun + "s e s 9999 ?", begun + "s s s s ?", begun + "0 1 2 3 t")
            self.bad(desk, "BadNumber", begun + "0 1 2 10000", begun + "s s s 12345 ?")
            self.bad(desk, "NoName", begun + "0 1 t t", begun + "0 t 2 3")
            self.bad(desk, "NoPlace", begun + "0 1 5 3", begun + "5 1 2 3")
            self.bad(desk, "BadText", begun + "0 1 2 ?", begun + "0, 1", begun + "0 1 wished", begun + "0 1 2;")
        for begun in ("ann wish s", "ann strike s", "safe s", "safe 0"):
            self.bad(desk, "BadText", begun + " s", begun + " 0", begun + " t", begun + " 12345", begun + " wished")

    def test_cells_that_are_not_there(self):
        desk = Desk(ECHO, 1)
        self.bad(desk, "NoName", "writes z", "writes s", "writes e", "writes z ?")
        self.bad(desk, "BadText", "writes", "writes 0", "writes x y", "writes x 0", "writes go", "writes 12345",
                 "writes X")

    def test_slots(self):
        desk = Desk(ECHO, 1)
        desk.wish("ann", 3)
        self.bad(desk, "BadNumber", "slots 9", "slots 10", "slots 9999", "slots 10000", "slots 10000 ?")
        self.bad(desk, "BadText", "slots", "slots x", "slots 9 ?", "slots 1 1", "slots -1", "slots 00", "ann slots 1")
        self.answers(desk, "bound s", "0", "slots 0", "ok", "bound s", "none", "slots 8", "ok", "bound s", "0")

    def test_deeds_that_are_refused(self):
        desk = Desk(ECHO, 1)
        self.bad(desk, "NothingToUndo", "ann undo", " ann  undo ")
        self.bad(desk, "NothingToRedo", "ann redo")
        self.bad(desk, "NotWished", "ann strike s", "ann strike 0")
        desk.wish("ann", 0)
        self.bad(desk, "Twice", "ann wish s", "ann wish 0")
        self.bad(desk, "BadText", "ann undo 1", "ann redo s", "ann undo undo", "ann", "ann ann", "ann wish",
                 "ann strike", "ann bound s", "wish s", "undo", "ann, wish s", "Ann wish s", "go wish s", "ann wished",
                 "ann:wish s", "1 wish s")
        self.bad(desk, "NotWished", "ann strike 1", "bob strike 0")
        self.bad(desk, "NothingToUndo", "bob undo")

    def test_rows_of_other_words(self):
        desk = Desk(ECHO, 1)
        for word in KEPT + [";", ":", ",", "=", "+", "<", ">", "1", "12345", "01", "X", "x", "a" * 13, "?"]:
            if word not in ("wished", "pieces", "walls"):
                self.bad(desk, "BadText", word)
            if word not in ("wish", "strike", "undo", "redo"):
                self.bad(desk, "BadText", "ann " + word, "ann " + word + " s")
            for first in ("wished", "pieces", "walls"):
                self.bad(desk, "BadText", first + " " + word)

    def test_signs_and_lengths(self):
        desk = Desk(ECHO, 1)
        for thing in NO_TEXTS + ("", " ", " " * 20000, "\n", "wished\n", "\twished", "wished\x7f", "wish\u00e9d",
                                 "wished" + " " * 19995,
                                 "pieces\u00a0", "wished" + "\n" * 20000):
            self.bad(desk, "BadText", thing)
        self.answers(desk, "wished" + " " * 19994, "nothing", " " * 19990 + "ann wish s", "ok",
                     " " * 19991 + "ann wish 1", "refused BadText", "wished" + " " * 19994, "s")

    def test_sizes(self):
        desk = Desk(TWENTY, 3)
        for wish in ("", "ann wish z"):
            if wish:
                desk.row(wish)
            self.answers(desk, "bound 0", "0", "bound 0 y", "0", "lay z z", "nothing", "enough 19 18", "0", "curve y z",
                         " ".join("0" * 9))
            self.bad(desk, "TooMany", "bound 0 1 2", "lay y y y", "enough y 1 2", "curve 17 y z")
        larger = Desk(((), ("a",) + ("",) * 20, (("end",),) * 21), 3)
        self.bad(larger, "TooMany", "bound 0 1", "lay a a", "enough 20 a", "curve 17 0")
        self.answers(larger, "bound a", "0", "safe 20", "yes", "wished", "nothing", "walls",
                     "a: 0; " + "; ".join("%d: 0" % place for place in range(1, 21)))
        # Errors of the words come first.
        self.bad(larger, "NoName", "bound 0 1 t")
        self.bad(larger, "BadText", "bound 0 1 ;")

    def test_a_row_changes_nothing_but_by_deeds(self):
        desk = Desk(ECHO, 1)
        desk.row("ann wish e")
        desk.row("bob wish s")
        desk.row("bob undo")
        before = told_by(desk)
        for text in ("wished", "pieces", "walls", "writes x", "enough s", "bound s", "lay s", "curve s", "safe s"):
            self.same((desk.row(text), told_by(desk)), (desk.row(text), before))
        self.answers(desk, "bob redo", "ok", "wished", "s e")


class TestAgainstPlainDesk(DeskCase):
    def rows_for(self, chance, program):
        """Return some rows, some of them wrong."""
        names = [label for label in program[1] if label] + [str(place) for place in range(len(program[2]))]
        rows = []
        for _ in range(40):
            hand = chance.choice(("ann", "bob", "cid", "s", "a"))
            places = [chance.choice(names) for _ in range(chance.choice((1, 1, 2, 3)))]
            cell = chance.choice(program[0] or ("x",))
            words = chance.choice((
                [hand, "wish", places[0]], [hand, "wish", places[0]], [hand, "strike", places[0]], [hand, "undo"],
                [hand, "redo"], ["slots", str(chance.randrange(10))], ["wished"], ["pieces"], ["walls"],
                ["writes", cell], ["enough"] + places, ["bound"] + places, ["lay"] + places, ["curve"] + places[:2],
                ["safe", places[0]]))
            if chance.random() < 0.3:
                words = spoiled(chance, words)
            rows.append(spaced(chance, words))
        return rows

    def test_rows(self):
        chance = random.Random(501)
        words = ("ok", "nothing", "none", "yes", "no")
        told = set()
        programs = list(some_programs(80, 1, 7, 502)) + [program for program, _ in forward_programs(60, 503)]
        for program in programs:
            k = chance.randrange(9)
            desk, plain = Desk(program, k), PlainDesk(program, k)
            for text in self.rows_for(chance, program):
                answer = desk.row(text)
                self.same(answer, plain.row(text))
                told.add(answer if answer in words or answer.startswith("refused") else "more")
                self.same(told_by(desk, len(program[2])),
                          (plain.wished(), plain.map(), [plain.hands_of(place) for place in range(len(program[2]))]))
        self.assertEqual(told, set(words) | {"more"} | {"refused " + name for name in (
            "BadText", "BadNumber", "TooMany", "NoName", "NoPlace", "Twice", "NotWished", "NothingToUndo",
            "NothingToRedo")})

    def test_methods(self):
        chance = random.Random(504)
        told = set()
        for tries in range(60):
            desk, plain = Desk(TWENTY, 1), PlainDesk(TWENTY, 1)
            hands = ["h%d" % number for number in range(chance.choice((2, 5, 23)))]
            for _ in range(200):
                hand = chance.choice(hands + ["go"])
                word = chance.choice(("wish", "wish", "strike", "undo", "redo"))
                place = chance.choice((0, 1, 2, 3, 19, 20, -1, True))
                if word in ("wish", "strike"):
                    found = outcome(getattr(desk, word), hand, place)
                    self.same(found, plain.deed(word, hand, place) or ("value", None))
                else:
                    found = outcome(getattr(desk, word), hand)
                    self.same(found, getattr(plain, word)(hand) or ("value", None))
                told.add(found[0])
                self.same(desk.wished(), plain.wished())
            self.same(told_by(desk, 20), (plain.wished(), plain.map(), [plain.hands_of(place) for place in range(20)]))
        self.assertEqual(told, {"value", "BadName", "BadPlace", "Twice", "TooMany", "NotWished", "NothingToUndo",
                                "NothingToRedo"})

    def test_a_desk_made_anew(self):
        chance = random.Random(505)
        for program, _ in forward_programs(40, 506):
            rows = len(program[2])
            desk = Desk(program, 2)
            for text in self.rows_for(chance, program):
                desk.row(text)
            k = chance.randrange(1, 6)
            desk.slots(k)
            hands = sorted({hand for place in range(rows) for hand in desk.hands_of(place)}, reverse=True)
            anew = Desk(program, k)
            for hand in hands:
                for place in chance.sample(range(rows), rows):
                    if hand in desk.hands_of(place):
                        anew.wish(hand, place)
            self.same(told_by(anew, rows), told_by(desk, rows))
            questions = ["wished", "pieces", "walls", "writes x", "writes y", "enough 0", "curve 0 1", "safe 0"]
            questions += ["bound %d %d" % pair for pair in itertools.product(range(0, rows, 3), repeat=2)]
            questions += ["lay %d" % place for place in range(rows)]
            for text in questions + ["ann strike 1", "ann wish 1", "bob wish 0", "bob strike 0", "slots 3", "bound 0"]:
                self.same(anew.row(text), desk.row(text))


class TestObjects(DeskCase):
    def test_two_desks(self):
        one, other = Desk(ECHO, 1), Desk(ECHO, 1)
        before = told_by(other)
        kept = told_by(one)
        one.wish("ann", 3)
        one.slots(0)
        self.same(told_by(other), before)
        self.same(kept, before)
        self.refused(NothingToUndo, "ann", other.undo, "ann")
        self.same(other.row("bound s"), "0")

    def test_only_tuples_and_texts(self):
        desk = Desk(EVERY, 2)
        for text in ("ann wish s", "bob wish s", "bob wish 1", "ann undo"):
            self.assertIs(type(desk.row(text)), str)
        for found in (desk.wished(), desk.map()):
            self.assertIs(type(self.plain(found)), tuple)
            self.same(found, found)
        self.assertIs(type(self.plain(desk.hands_of(0), str)), tuple)
        self.same(desk.map(), desk.map())
        for method, arguments in ((desk.wish, ("ann", 4)), (desk.undo, ("ann",)), (desk.redo, ("ann",)),
                                  (desk.strike, ("ann", 4)),
                                  (desk.slots, (4,))):
            self.same(method(*arguments), None)

    def test_by_names(self):
        desk = Desk(k=1, program=ECHO)
        desk.wish(place=3, hand="ann")
        desk.strike(place=3, hand="ann")
        desk.undo(hand="ann")
        desk.redo(hand="ann")
        desk.undo(hand="ann")
        desk.slots(k=2)
        self.same((desk.hands_of(place=3), desk.row(text="lay s"), desk.wished()), (("ann",), "e", (3,)))

    def test_random_words_raise_nothing(self):
        chance = random.Random(507)
        desk = Desk(EVERY, 2)
        for _ in range(1500):
            words = [random_word(chance, ["ann", "s", "wish", "bound"]) for _ in range(chance.randrange(5))]
            self.assertIs(type(desk.row(" ".join(words))), str)
