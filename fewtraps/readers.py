"""Readers: the words of a text, from left to right, with the errors that all texts have in common."""

from fewtraps.errors import BadNumber, BadText
from fewtraps.words import is_name, is_numeral

MOST_SIGNS = 20000
MOST_FIGURES = 4
# These signs are words of their own.
WORD_SIGNS = ";:,=+<>"


class Reader:
    """The words of a text, and how many of them have been read.

    The next word is "" at the end of the text. A method that reads a word raises BadText if no such word is next.
    """

    def __init__(self, text):
        check_signs(text)
        self.words = words_of(text)
        self.words.append(("", len(text)))
        self.done = 0

    def word(self):
        """Return the next word."""
        return self.words[self.done][0]

    def place(self):
        """Return the place of the next word."""
        return self.words[self.done][1]

    def second_word(self):
        """Return the word behind the next one; the next one is not the end."""
        return self.words[self.done + 1][0]

    def second_place(self):
        """Return the place of the word behind the next one; the next one is not the end."""
        return self.words[self.done + 1][1]

    def at_end(self):
        """Return whether the end of the text is next."""
        return self.word() == ""

    def at_name(self):
        """Return whether a name is next."""
        return is_name(self.word())

    def at_number(self):
        """Return whether a number is next."""
        return is_numeral(self.word())

    def check_end(self):
        """Expect the end of the text."""
        if not self.at_end():
            raise BadText(self.place())

    def skips(self, word):
        """Read the next word if it is this one; return whether it was."""
        found = self.word() == word
        if found:
            self.done = self.done + 1
        return found

    def one_of(self, words):
        """Read the next word, which is one of these; return it."""
        if self.word() not in words:
            raise BadText(self.place())
        return self._taken()

    def name(self):
        """Read a name; return it."""
        if not self.at_name():
            raise BadText(self.place())
        return self._taken()

    def number(self):
        """Read a number of at most four figures; return it."""
        if not self.at_number():
            raise BadText(self.place())
        if len(self.word()) > MOST_FIGURES:
            raise BadNumber(self.place())
        return int(self._taken())

    def _taken(self):
        word = self.word()
        self.done = self.done + 1
        return word


def check_signs(text):
    """Raise BadText unless text is a text, not too long, of signs that texts may have."""
    if not isinstance(text, str):
        raise BadText(-1)
    for index, sign in enumerate(text):
        if index == MOST_SIGNS or not " " <= sign <= "~":
            raise BadText(index)


def words_of(text):
    """Return the list of the words of the text, each with the index at which it begins."""
    found = []
    begun = None
    # The blank put behind the text ends its last word.
    for index, sign in enumerate(text + " "):
        if sign != " " and sign not in WORD_SIGNS:
            begun = index if begun is None else begun
            continue
        if begun is not None:
            found.append((text[begun:index], begun))
            begun = None
        if sign != " ":
            found.append((sign, index))
    return found
