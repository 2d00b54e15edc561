"""Orders: what the rows of a desk ask for, each as a tuple of a word and of what belongs to it."""

from fewtraps.errors import NoName, NoPlace, TooMany
from fewtraps.maps import MOST_THREADS
from fewtraps.readers import Reader

PLACE_DEEDS = ("wish", "strike")
BARE_DEEDS = ("undo", "redo")
STANDING_QUESTIONS = ("enough", "bound", "lay", "curve")
FIRST_WORDS = ("slots", "wished", "pieces", "walls", "writes", "enough", "bound", "lay", "curve", "safe")


def read_order(text, program):
    """Return the order that the text tells at a desk with this program."""
    reader = Reader(text)
    order = read_deed(reader, program) if reader.at_name() else read_rest(reader, program)
    reader.check_end()
    return order


def read_deed(reader, program):
    """Return an order that begins with the name of a hand: the word, the hand, and the place if there is one."""
    hand = reader.name()
    word = reader.one_of(PLACE_DEEDS + BARE_DEEDS)
    if word in BARE_DEEDS:
        return (word, hand)
    return (word, hand, read_place(reader, program))


def read_rest(reader, program):
    """Return an order that begins with a kept word."""
    word = reader.one_of(FIRST_WORDS)
    if word == "slots":
        return (word, reader.number())
    if word == "writes":
        return (word, read_cell(reader, program))
    if word == "safe":
        return (word, read_place(reader, program))
    if word in STANDING_QUESTIONS:
        return (word, read_standing(reader, program))
    return (word,)


def read_standing(reader, program):
    """Return the standing of one place or more."""
    standing = [read_place(reader, program)]
    while reader.at_name() or reader.at_number():
        standing.append(read_place(reader, program, len(standing)))
    return tuple(standing)


def read_place(reader, program, earlier=0):
    """Return the row that is told by its label or its number, behind so many others."""
    place = reader.place()
    if reader.at_name():
        name = reader.name()
        check_many(earlier, place)
        return row_called(program, name, place)
    number = reader.number()
    check_many(earlier, place)
    if number >= len(program[2]):
        raise NoPlace(place)
    return number


def check_many(earlier, place):
    """Raise TooMany if there is no thread for one more place of a standing."""
    if earlier == MOST_THREADS:
        raise TooMany(place)


def row_called(program, name, place):
    """Return the row that has this label."""
    if name not in program[1]:
        raise NoName(place)
    return program[1].index(name)


def read_cell(reader, program):
    """Return the number of the cell that is told by its name."""
    place = reader.place()
    name = reader.name()
    if name not in program[0]:
        raise NoName(place)
    return program[0].index(name)
