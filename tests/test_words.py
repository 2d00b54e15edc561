from fewtraps.words import is_name
from tests.cases import Case
from tests.runs import KEPT


class TestIsName(Case):
    def test_names(self):
        for name in ("a", "z", "x1", "s", "e", "abcdefghijkl", "a01234567890"[:12], "z9", "gogo", "g0", "ends", "iff"):
            self.same(is_name(name), True)
            self.assertTrue(len(name) <= 12)

    def test_each_sign_first_and_behind(self):
        for code in list(range(300)) + [0x391, 0x661, 0xff11, 0xff41, 0x1d7ce]:
            sign = chr(code)
            self.same(is_name(sign), sign in "abcdefghijklmnopqrstuvwxyz")
            for word in ("q" + sign, "q" + sign + "q", "q1" + sign):
                self.same(is_name(word), sign in "abcdefghijklmnopqrstuvwxyz0123456789")

    def test_lengths(self):
        self.same(is_name(""), False)
        for length in range(1, 20):
            self.same(is_name("a" * length), length <= 12)
            self.same(is_name("a" + "0" * (length - 1)), length <= 12)
        self.same(is_name("a" * 30000), False)

    def test_kept_words(self):
        self.assertEqual(len(KEPT), 25)
        for word in KEPT:
            self.same(is_name(word), False)
            for other in (word + "0", word + word[0], word[:-1] + "9", "x" + word):
                self.same(is_name(other), True)
            self.same(is_name(word.upper()), False)
        for word in ("roads1", "row", "map", "lays", "put", "sum", "same", "less", "ok", "refused", "on", "idle",
                     "miss"):
            self.same(is_name(word), True)

    def test_wrong_names(self):
        for word in ("A", "aB", "1", "1a", "0", "a b", " a", "a ", "a_b", "_a", "a-b", "a.b", "a;", ":", "a\n", "\ta",
                     "\u00e9", "a\u00e9", "a\u0661", "stra\u00dfe", "a" * 12 + " "):
            self.same(is_name(word), False)

    def test_what_is_no_text(self):
        deep = ()
        for _ in range(20):
            deep = (deep, "a")
        for thing in (None, True, False, 0, 1, 97, (), ("a",), ("a", "b"), deep, -1, 10 ** 30, ["a"], b"a", {"a"}):
            self.same(is_name(thing), False)

    def test_by_names(self):
        self.same(self.by_names(is_name, thing="x"), True)
