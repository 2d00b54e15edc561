import random

from fewtraps.errors import BadNumber, BadText, NoName, TooMany, Twice
from fewtraps.programs import made_program
from fewtraps.readprogram import read_program
from tests.runs import ECHO, EVERY, KEPT, some_programs
from tests.texts import PlainProgram, ReaderCase, checks_signs, outcome, plain_read, spaced, spoiled, words_of_program


class TestReadProgram(ReaderCase):
    read = staticmethod(read_program)
    grammar = PlainProgram

    def test_examples(self):
        self.good(ECHO, "s: x=ask; if x = y go e;go s; e : y = x + x; go s")
        self.bad(BadText, 0, "")
        self.bad(BadText, 5, "x = 1")
        self.bad(BadText, 8, "s: go s;")
        self.bad(BadText, 2, "go: end")
        self.bad(BadText, 4, "x = 01; end")
        self.bad(BadNumber, 4, "x = 10; end")
        self.bad(Twice, 9, "s: go s; s: end")
        self.bad(NoName, 3, "go s")

    def test_each_kind_of_row(self):
        self.good(EVERY, "s:a=9;b2=ask;t:c=a+b2;if c=b2 go u;c:if a<c go s;switch b2 t c t u;go c;u:end")
        self.good(((), ("",), (("end",),)), "end")
        self.good(((), ("s",), (("go", 0),)), "  s  :  go  s  ")
        self.good((("x",), ("x",), (("switch", 0, (0, 0, 0, 0)),)), "x:switch x x x x x")
        for worth in range(10):
            self.good((("x",), ("", ""), (("put", 0, worth), ("end",))), "x=%d;end" % worth)

    def test_blanks(self):
        words = words_of_program(ECHO)
        self.good(ECHO, "    " + "   ".join(words) + "  ")
        self.good(ECHO, " ".join(words))
        self.bad(BadText, 7, "x = as k; end")
        self.bad(BadText, 2, "g o s")
        self.bad(BadText, 4, "end end")
        # Runs that stand beside one another without a blank are one word.
        self.bad(BadText, 3, "gos; s: end")
        self.bad(BadText, 4, "go s:end")

    def test_the_order_of_the_cells(self):
        self.good((("b", "a", "c"), ("", ""), (("sum", 0, 1, 2), ("end",))), "b = a + c; end")
        self.good((("d", "b", "a"), ("", "s", ""), (("less", 0, 1, 1), ("ask", 2), ("go", 1))),
                  "if d < b go s; s: a = ask; go s")
        self.good((("q",), ("", "p"), (("switch", 0, (1, 1)), ("end",))), "switch q p p; p: end")

    def test_numbers(self):
        for number in (10, 11, 60, 99, 100, 999, 1000, 9999, 10000, 12345, 10 ** 20, 10 ** 5000):
            self.bad(BadNumber, 4, "x = %s; end" % ("1" + "0" * 5000 if number == 10 ** 5000 else number))
        for word in ("00", "01", "0009", "012345", "1x", "-1", "1.0", "1_0", "0x1"):
            self.bad(BadText, 4, "x = %s; end" % word)
        # The number is asked ahead of the word behind it, and behind the word ahead of it.
        self.bad(BadNumber, 4, "x = 10 go")
        self.bad(BadText, 2, "x 10; end")
        self.bad(BadText, 6, "s: if 1 = x go s")
        self.bad(BadText, 3, "go 0")

    def test_names(self):
        long, longer = "a" * 12, "a" * 13
        self.good((("b" * 12,), (long, ""), (("ask", 0), ("go", 0))), "%s: %s = ask; go %s" % (long, "b" * 12, long))
        self.bad(BadText, 0, longer + ": end")
        self.bad(BadText, 0, longer + " = 1; end")
        self.bad(BadText, 3, "go %s; s: end" % longer)
        self.bad(BadText, 4, "x = %s + x; end" % longer)
        for word in KEPT:
            deed = word in ("go", "if", "switch", "end")
            self.bad(BadText, len(word) + 1 if deed else 0, word + " : end")
            self.bad(BadText, len(word) + 4 if deed else 3, "s: " + word + " = 1; end")
            self.bad(BadText, 8 if word == "ask" else 4, "x = " + word + " + x; end")
            self.bad(BadText, 3, "go " + word)
            self.bad(BadText, 9, "switch x " + word)
        for word in ("X", "x_", "1x", "x.y", "?"):
            self.bad(BadText, 0, word + ": end")
            self.bad(BadText, 3, "go " + word)

    def test_the_word_behind_the_first_name_of_a_row(self):
        eight = "; ".join("c%d = 1" % n for n in range(8))
        sixty = "; ".join(["end"] * 60)
        for behind in ("x", "go", ";", "+", "<", ",", "1", "12345", "end", "A", ""):
            self.bad(BadText, 2, "s %s" % behind if behind else "s ")
            # It comes before the questions of the name, whatever they are.
            self.bad(BadText, len(eight) + 5, "%s; x  %s" % (eight, behind))
            self.bad(BadText, len(sixty) + 5, "%s; x  %s" % (sixty, behind))
            self.bad(BadText, 10, "s: end; s %s" % behind)
        self.bad(TooMany, len(eight) + 2, eight + "; x = A")
        self.bad(TooMany, len(sixty) + 2, sixty + "; x = A")
        self.bad(TooMany, len(sixty) + 2, sixty + "; x : A")
        self.bad(Twice, 8, "s: end; s: A")
        # Behind a label a name is a cell, and its question comes before the next word.
        self.bad(TooMany, len(eight) + 5, eight + "; s: x A")
        self.bad(BadText, 5, "s: x : end")
        self.bad(BadText, 4, "s: x")
        self.bad(BadText, 2, "s:: end")
        self.bad(BadText, 3, "s: ")

    def test_as_many_rows_as_are_let(self):
        sixty = "; ".join(["end"] * 60)
        self.good(((), ("",) * 60, (("end",),) * 60), sixty)
        for row in ("end", "go s", "if", "switch", "x = 1", "s: end", "x: 1", "a: end"):
            self.bad(TooMany, len(sixty) + 2, "%s; %s" % (sixty, row))
        labelled = "a: " + sixty
        self.bad(TooMany, len(labelled) + 2, labelled + "; a: end")
        self.bad(BadText, len(sixty) + 2, sixty + "; A")
        self.bad(BadText, len(sixty) + 1, sixty + ";")
        self.bad(BadText, len(sixty) + 2, sixty + "; ;")

    def test_as_many_cells_as_are_let(self):
        eight = "s: " + "; ".join("c%d = 1" % n for n in range(8)) + "; "
        self.same(len(read_program(eight + "end")[0]), 8)
        self.same(len(read_program(eight + "c7 = c0 + c1; if c2 < c3 go s; switch c4 s")[0]), 8)
        for text, at in (("x = 1", 0), ("x = c0 + c1", 0), ("c0 = x + c1", 5), ("c0 = c1 + x", 10), ("x = ask", 0),
                         ("if x = c0 go s", 3), ("if c0 < x go s", 8), ("switch x s", 7), ("c0 = x", 5), ("if x", 3),
                         ("if c0 = x ?", 8), ("c0 = c1 + x ?", 10)):
            self.bad(TooMany, len(eight) + at, eight + text)
        self.bad(BadText, len(eight) + 6, eight + "if c0 x")

    def test_labels(self):
        self.good((("s",), ("s", "t"), (("ask", 0), ("go", 0))), "s: s = ask; t: go s")
        self.bad(Twice, 16, "s: end; t: end; s: end")
        self.bad(Twice, 8, "s: end; s: go t")
        self.bad(Twice, 16, "go q; s: end;   s: end")
        self.good((("x",), ("t", "", "", "u"), (("switch", 0, (0,)), ("switch", 0, (3, 0)), ("switch", 0, (0, 0, 0)),
                                                ("switch", 0, (3, 0, 3, 0)))),
                  "t: switch x t; switch x u t; switch x t t t; u: switch x u t u t")
        for more in ("t", "u", "t t", "nothere", "t 1"):
            self.bad(TooMany, 20, "t: switch x t t t t " + more)
        self.bad(BadText, 20, "t: switch x t t t t 1")
        self.bad(BadText, 11, "t: switch x")
        self.bad(BadText, 12, "t: switch x ; end")

    def test_names_of_no_row(self):
        self.bad(NoName, 3, "go t; go u; s: end")
        self.bad(NoName, 12, "s: go s; go u; go v")
        self.bad(NoName, 12, "if x = y go u; s: end")
        self.bad(NoName, 11, "switch x s u v; s: end")
        self.bad(NoName, 3, "go x; x = 1; end")
        # All other errors come first, wherever they are.
        self.bad(BadText, 13, "go t; x = 1; ")
        self.bad(BadText, 11, "go t; x = 1")
        self.bad(BadNumber, 10, "go t; x = 10; end")
        self.bad(Twice, 14, "go t; s: end; s: end")
        self.bad(BadText, 10, "go t; end ?")

    def test_rows_that_end_in_the_middle(self):
        for text in ("x", "x =", "x = y", "x = y +", "s", "s:", "s: x", "go", "if", "if x", "if x =", "if x = y",
                     "if x = y go",
                     "switch", "switch x", "x = ask", "x = 1", "x = y + z", "if x = x go s", "s: x = ask", " x = ask"):
            for blanks in ("", " ", "   "):
                self.bad(BadText, len(text) + len(blanks), text + blanks)
                self.bad(BadText, len(text) + len(blanks) + 5, "end; " + text + blanks)
            if text not in ("x = ask", "x = 1", "x = y + z", "if x = x go s", "s: x = ask", " x = ask"):
                self.bad(BadText, len(text), text + "; end")
        for text in (";", ";;", "; end", " ;", "end;", "end; ;", "end;; end"):
            bad = {"; end": 0, ";": 0, ";;": 0, " ;": 1, "end;": 4, "end; ;": 5, "end;; end": 4}[text]
            self.bad(BadText, bad, text)

    def test_signs_in_words(self):
        for code in range(33, 127):
            sign = chr(code)
            text = "a" + sign + "b: end"
            if sign in "abcdefghijklmnopqrstuvwxyz0123456789":
                self.good(((), (text[:3],), (("end",),)), text)
            elif sign in ":=":
                self.bad(BadText, 3, text)
            else:
                self.bad(BadText, 1 if sign in ";,+<>" else 0, text)

    def test_signs(self):
        checks_signs(self, read_program, "s: x = ask; go s")
        self.same(outcome(read_program, "?\n"), ("BadText", 1))

    def test_texts_right_and_wrong(self):
        chance = random.Random(461)
        programs = list(some_programs(150, 1, 6, 462)) + list(some_programs(12, 58, 60, 463))
        told = {}
        for program in programs:
            words = words_of_program(program)
            for tries in range(40 if len(words) < 100 else 6):
                text = spaced(chance, spoiled(chance, words) if tries else words)
                found = outcome(read_program, text)
                self.same(found, plain_read(text, PlainProgram()))
                told[found[0]] = told.get(found[0], 0) + 1
                if found[0] == "value":
                    self.plain(made_program(found[1]), str)
        for word in ("value", "BadText", "BadNumber", "TooMany", "Twice", "NoName"):
            self.assertGreater(told[word], 15, told)

    def test_by_names(self):
        self.same(self.by_names(read_program, text="s: go s"), ((), ("s",), (("go", 0),)))
