"""Plain readers and printers, straight from the grammars of the document, and texts to read, right and wrong ones."""

import re

from fewtraps.errors import Refused
from tests.cases import Case
from tests.runs import KEPT, random_name

END = "the end"
NAME = "a name"
NUMBER = "a number"


def kind_of(word):
    """Return what a word can stand for: itself, a name, a number, or nothing."""
    if word in (";", ":", ",", "=", "+", "<", ">", END) or word in KEPT:
        return word
    if re.fullmatch("[a-z][a-z0-9]{0,11}", word):
        return NAME
    return NUMBER if re.fullmatch("0|[1-9][0-9]*", word) else "nothing"


def plain_read(text, reading):
    """Return ("value", value), or the name and the place of the first error.

    The table of the reading tells for each state which words can stand there, each with the question that belongs to
    it, or None, and the state behind it. A question returns an error, or None.
    """
    if not isinstance(text, str):
        return "BadText", -1
    for index, sign in enumerate(text):
        if index == 20000 or not 32 <= ord(sign) <= 126:
            return "BadText", index
    words = [(match.group(), match.start()) for match in re.finditer("[;:,=+<>]|[^ ;:,=+<>]+", text)]
    state = "begin"
    for word, place in words + [(END, len(text))]:
        kind = kind_of(word)
        if kind not in reading.table[state]:
            return "BadText", place
        if kind == NUMBER and len(word) > 4:
            return "BadNumber", place
        question, state = reading.table[state][kind]
        error = question(word, place) if question else None
        if error:
            return error
    return reading.value()


def outcome(function, *arguments):
    """Return ("value", value), or the name of the error and what it tells."""
    try:
        return "value", function(*arguments)
    except Refused as error:
        return type(error).__name__, error.what


class PlainProgram:
    """The grammar of [14.3]. The questions of a name that begins a row wait for the word behind it."""

    def __init__(self):
        self.cells, self.labels, self.rows, self.named = [], [], [], []
        deeds = {"go": (self.row("go"), "go"), "if": (self.row("if"), "if"), "switch": (self.row("switch"), "switch"),
                 "end": (self.row("end"), "behind a last row")}
        self.table = {
            "begin": {NAME: (self.wait, "first"), **deeds},
            "first": {":": (self.label, "deed"), "=": (self.first_cell, "giving")},
            "deed": {NAME: (self.cell, "giving cell"), **{word: (self.more, to) for word, (_, to) in deeds.items()}},
            "giving cell": {"=": (None, "giving")},
            "giving": {NUMBER: (self.worth, "behind"), "ask": (self.more, "behind"), NAME: (self.cell, "sum")},
            "sum": {"+": (self.more, "sum sign")},
            "sum sign": {NAME: (self.cell, "behind")},
            "go": {NAME: (self.target, "behind a last row")},
            "if": {NAME: (self.cell, "if cell")},
            "if cell": {"=": (self.more, "if sign"), "<": (self.more, "if sign")},
            "if sign": {NAME: (self.cell, "if cells")},
            "if cells": {"go": (None, "if go")},
            "if go": {NAME: (self.target, "behind")},
            "switch": {NAME: (self.cell, "switch cell")},
            "switch cell": {NAME: (self.target, "switch label")},
            "switch label": {NAME: (self.further, "switch label"), ";": (None, "begin"), END: (None, None)},
            "behind": {";": (None, "begin")},
            "behind a last row": {";": (None, "begin"), END: (None, None)},
        }

    def begins(self, place):
        if len(self.rows) == 60:
            return "TooMany", place
        self.rows.append([])
        self.labels.append("")

    def row(self, word):
        return lambda _, place: self.begins(place) or self.more(word, place)

    def more(self, word, place):
        self.rows[-1].append(word)

    def wait(self, word, place):
        self.waiting = word, place

    def label(self, *_):
        word, place = self.waiting
        error = self.begins(place)
        if error or word in self.labels:
            return error or ("Twice", place)
        self.labels[-1] = word

    def first_cell(self, *_):
        return self.begins(self.waiting[1]) or self.cell(*self.waiting)

    def cell(self, word, place):
        if word not in self.cells:
            if len(self.cells) == 8:
                return "TooMany", place
            self.cells.append(word)
        self.rows[-1].append(self.cells.index(word))

    def worth(self, word, place):
        if int(word) > 9:
            return "BadNumber", place
        self.rows[-1] += ["put", int(word)]

    def target(self, word, place):
        self.named.append((word, place))
        self.rows[-1].append((word,))

    def further(self, word, place):
        targets = self.rows[-1].pop()
        if len(targets) == 4:
            return "TooMany", place
        self.named.append((word, place))
        self.rows[-1].append(targets + (word,))

    def value(self):
        for word, place in self.named:
            if word not in self.labels:
                return "NoName", place
        return "value", (tuple(self.cells), tuple(self.labels), tuple(map(self.made, self.rows)))

    def made(self, row):
        at = self.labels.index
        match row:
            case ["go", (label,)]:
                return ("go", at(label))
            case ["if", c, "=", d, (label,)]:
                return ("same", c, d, at(label))
            case ["if", c, "<", d, (label,)]:
                return ("less", c, d, at(label))
            case ["switch", c, targets]:
                return ("switch", c, tuple(map(at, targets)))
            case ["end"]:
                return ("end",)
            case [c, "put", worth]:
                return ("put", c, worth)
            case [c, "ask"]:
                return ("ask", c)
            case [c, d, "+", e]:
                return ("sum", c, d, e)


class PlainMap:
    """The grammar of [14.5]."""

    def __init__(self):
        self.roads, self.wished = [], []
        self.table = {
            "begin": {"places": (None, "places")},
            "places": {NUMBER: (self.count, "places told")},
            "places told": {";": (None, "roads word")},
            "roads word": {"roads": (None, "roads")},
            "roads": {NUMBER: (self.first, "road begun"), ";": (None, "wished word")},
            "road": {NUMBER: (self.first, "road begun")},
            "road begun": {NUMBER: (self.second, "road told")},
            "road told": {",": (None, "road"), ";": (None, "wished word")},
            "wished word": {"wished": (None, "wished")},
            "wished": {NUMBER: (self.wish, "wished"), END: (None, None)},
        }

    def count(self, word, place):
        self.places = int(word)
        return ("BadNumber", place) if self.places > 60 else None

    def first(self, word, place):
        self.start = int(word)
        if len(self.roads) == 240:
            return "TooMany", place
        return ("NoPlace", place) if self.start >= self.places else None

    def second(self, word, place):
        if int(word) >= self.places:
            return "NoPlace", place
        if (self.start, int(word)) in self.roads:
            return "Twice", place
        self.roads.append((self.start, int(word)))

    def wish(self, word, place):
        if int(word) >= self.places:
            return "NoPlace", place
        if int(word) in self.wished:
            return "Twice", place
        self.wished.append(int(word))

    def value(self):
        return "value", (self.places, tuple(sorted(self.roads)), tuple(sorted(self.wished)))


class PlainPlay:
    """The grammar of [14.6]."""

    def __init__(self):
        self.entries = []
        entry = {"lay": (self.begins, "lay"), "go": (self.begins, "go")}
        self.table = {
            "begin": {END: (None, None), **entry},
            "entry": entry,
            "lay": {NUMBER: (self.trap, "lay"), ";": (None, "entry"), END: (None, None)},
            "go": {NUMBER: (self.number, "thread")},
            "thread": {NUMBER: (self.number, "place")},
            "place": {";": (None, "entry"), END: (None, None)},
        }

    def begins(self, word, place):
        if len(self.entries) == 2000:
            return "TooMany", place
        self.entries.append([word])

    def trap(self, word, place):
        if int(word) in self.entries[-1]:
            return "Twice", place
        self.number(word, place)

    def number(self, word, place):
        self.entries[-1].append(int(word))

    def value(self):
        return "value", tuple((entry[0], tuple(sorted(entry[1:]))) if entry[0] == "lay" else tuple(entry)
                              for entry in self.entries)


class PlainOrder:
    """The grammar of [15.4], for a desk with this program. Its value is a list of the words and what they tell."""

    def __init__(self, program):
        self.program, self.told, self.places = program, [], 0
        place = {NAME: (self.named_place, "end"), NUMBER: (self.numbered_place, "end")}
        further = {kind: (question, "further place") for kind, (question, _) in place.items()}
        self.table = {
            "begin": {NAME: (self.word, "hand"), "slots": (self.word, "slots"), "writes": (self.word, "cell"),
                      "safe": (self.word, "place"),
                      **{word: (self.word, "end") for word in ("wished", "pieces", "walls")},
                      **{word: (self.word, "first place") for word in ("enough", "bound", "lay", "curve")}},
            "hand": {"wish": (self.word, "place"), "strike": (self.word, "place"), "undo": (self.word, "end"),
                     "redo": (self.word, "end")},
            "slots": {NUMBER: (lambda word, place: self.word(int(word), place), "end")},
            "cell": {NAME: (self.cell, "end")},
            "place": place,
            "first place": further,
            "further place": {END: (None, None), **further},
            "end": {END: (None, None)},
        }

    def word(self, word, place):
        self.told.append(word)

    def cell(self, word, place):
        if word not in self.program[0]:
            return "NoName", place
        self.told.append(self.program[0].index(word))

    def one_more(self, place):
        self.places += 1
        return ("TooMany", place) if self.places > 3 else None

    def named_place(self, word, place):
        error = self.one_more(place) or (None if word in self.program[1] else ("NoName", place))
        if error is None:
            self.told.append(self.program[1].index(word))
        return error

    def numbered_place(self, word, place):
        error = self.one_more(place) or (None if int(word) < len(self.program[2]) else ("NoPlace", place))
        if error is None:
            self.told.append(int(word))
        return error

    def value(self):
        return "value", self.told


def words_of_program(program):
    """Return the list of the words of a program, without a semicolon ahead of the first row."""
    cells, labels, rows = program
    words = []
    for label, row in zip(labels, rows):
        words += [";"] + ([label, ":"] if label else [])
        match row:
            case ("put", c, worth):
                words += [cells[c], "=", str(worth)]
            case ("sum", c, d, e):
                words += [cells[c], "=", cells[d], "+", cells[e]]
            case ("ask", c):
                words += [cells[c], "=", "ask"]
            case ("go", target):
                words += ["go", labels[target]]
            case ("same", c, d, target):
                words += ["if", cells[c], "=", cells[d], "go", labels[target]]
            case ("less", c, d, target):
                words += ["if", cells[c], "<", cells[d], "go", labels[target]]
            case ("switch", c, targets):
                words += ["switch", cells[c]] + [labels[target] for target in targets]
            case ("end",):
                words += ["end"]
    return words[1:]


def words_of_map(chart):
    places, roads, wished = chart
    words = ["places", str(places), ";", "roads"]
    for a, b in roads:
        words += [",", str(a), str(b)]
    if roads:
        del words[4]
    return words + [";", "wished"] + [str(place) for place in wished]


def words_of_play(play):
    words = []
    for entry in play:
        numbers = entry[1] if entry[0] == "lay" else entry[1:]
        words += [";", entry[0]] + [str(number) for number in numbers]
    return words[1:]


def printed(words):
    """Return the words as [14.7] wants them."""
    text = ""
    for word in words:
        text += word if not text or word in (";", ":", ",") else " " + word
    return text


def spaced(chance, words):
    """Return the words with blanks drawn: any number beside the seven signs and at the ends, at least one elsewhere."""
    text = " " * chance.choice((0, 0, 0, 1, 3))
    for at, word in enumerate(words):
        least = at > 0 and not {word, words[at - 1]} & set(";:,=+<>")
        text += " " * (least + chance.choice((0, 0, 0, 1, 2))) + word
    return text + " " * chance.choice((0, 0, 0, 1, 3))


def random_word(chance, words):
    """Return a word of any kind, often one of those given."""
    return chance.choice((
        lambda: chance.choice(";:,=+<>"), lambda: chance.choice(KEPT), lambda: chance.choice(KEPT),
        lambda: random_name(chance), lambda: chance.choice(words or ["x"]), lambda: chance.choice(words or ["x"]),
        lambda: str(chance.randrange(12)), lambda: str(chance.choice((9, 10, 59, 60, 61, 99, 100, 999, 1000, 9999))),
        lambda: chance.choice(("10000", "12345", "99999", "123456789", "1" * 50)),
        lambda: chance.choice(("00", "01", "007", "1a", "a_b", "A", "go1A", "-1", "a" * 13, "x.", "GO", "_", "\"",
                               "0x1")),
    ))()


def spoiled(chance, words):
    """Return the words with one or two of them put in, taken out, doubled, exchanged or replaced."""
    words = list(words)
    for _ in range(chance.choice((1, 1, 2))):
        at = chance.randrange(len(words) + 1)
        way = chance.randrange(5)
        if way == 0 or at == len(words):
            words.insert(at, random_word(chance, words))
        elif way == 1:
            del words[at]
        elif way == 2:
            words.insert(at, words[at])
        elif way == 3:
            other = chance.randrange(len(words))
            words[at], words[other] = words[other], words[at]
        else:
            words[at] = random_word(chance, words)
    return words


class ReaderCase(Case):
    """A case for a reader, `read`, beside its plain grammar."""

    def bad(self, error, what, text):
        self.refused(error, what, self.read, text)
        self.same(plain_read(text, self.grammar()), (error.__name__, what))

    def good(self, value, text):
        self.same(self.read(text), value)
        self.same(plain_read(text, self.grammar()), ("value", value))


NO_TEXTS = (None, 0, True, False, (), ("go",), ("lay", ()), [], ["end"], b"end", {"end"})


def checks_signs(case, read, good):
    """Expect the errors that all texts have in common, of a reader that takes this text."""
    for thing in NO_TEXTS:
        case.same(outcome(read, thing), ("BadText", -1))
    for code in list(range(32)) + list(range(127, 260)) + [0x2028, 0x3b1, 0xff1b, 0x1d7ce]:
        for index in range(len(good) + 1):
            case.same(outcome(read, good[:index] + chr(code) + good[index:]), ("BadText", index))
        case.same(outcome(read, "?" + chr(code) * 2), ("BadText", 1))
    for code in range(32, 127):
        case.same(outcome(read, "?" + chr(code) + "\t"), ("BadText", 2))
        case.same(outcome(read, "?" + chr(code)), ("BadText", 0))
    expected = outcome(read, good)
    case.same(expected[0], "value")
    case.same(outcome(read, good + " " * (20000 - len(good))), expected)
    case.same(outcome(read, " " * (20000 - len(good)) + good), expected)
    for length in (20001, 20002, 50000):
        case.same(outcome(read, good + " " * (length - len(good))), ("BadText", 20000))
        case.same(outcome(read, " " * (length - len(good)) + good), ("BadText", 20000))
        case.same(outcome(read, "?" * length), ("BadText", 20000))
        case.same(outcome(read, good + " " * (length - len(good) - 2) + "\t\n"), ("BadText", min(20000, length - 2)))
        case.same(outcome(read, good + "\n" + " " * length), ("BadText", len(good)))
    case.same(outcome(read, "?" * 20000), ("BadText", 0))
