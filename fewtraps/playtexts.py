"""The reader and the printer of plays."""

from fewtraps.errors import BadPlay, TooMany, Twice
from fewtraps.maps import first_bad_place, number_within
from fewtraps.readers import Reader

MOST_ENTRIES = 2000
GREATEST_NUMBER = 9999


def read_play(text):
    """Return the tuple of the entries that the text tells."""
    reader = Reader(text)
    entries = []
    if not reader.at_end():
        read_entry(reader, entries)
        while reader.skips(";"):
            read_entry(reader, entries)
        reader.check_end()
    return tuple(entries)


def print_play(play):
    """Return the text of the play."""
    if not isinstance(play, tuple) or len(play) > MOST_ENTRIES:
        raise BadPlay(-1)
    for index, entry in enumerate(play):
        if not entry_fits(entry):
            raise BadPlay(index)
    return "; ".join([entry_text(entry) for entry in play])


def read_entry(reader, entries):
    """Read one more entry."""
    place = reader.place()
    word = reader.one_of(("lay", "go"))
    if len(entries) == MOST_ENTRIES:
        raise TooMany(place)
    if word == "lay":
        entries.append(("lay", tuple(sorted(read_traps(reader)))))
    else:
        i = reader.number()
        entries.append(("go", i, reader.number()))


def read_traps(reader):
    """Return a dict of all traps of an entry."""
    traps = {}
    while reader.at_number():
        place = reader.place()
        trap = reader.number()
        if trap in traps:
            raise Twice(place)
        traps[trap] = True
    return traps


def entry_fits(thing):
    """Return whether thing is an entry of which each number can be told."""
    if not isinstance(thing, tuple) or len(thing) not in (2, 3):
        return False
    if len(thing) == 2:
        return thing[0] == "lay" and traps_can_be_told(thing[1])
    return thing[0] == "go" and can_be_told(thing[1]) and can_be_told(thing[2])


def traps_can_be_told(thing):
    """Return whether thing is an ascending tuple of numbers that can be told."""
    return isinstance(thing, tuple) and first_bad_place(GREATEST_NUMBER + 1, thing) is None


def can_be_told(thing):
    """Return whether thing is a number that can be told."""
    return number_within(thing, 0, GREATEST_NUMBER)


def entry_text(entry):
    """Return the text of the entry."""
    numbers = entry[1] if entry[0] == "lay" else entry[1:]
    return " ".join([entry[0]] + [str(number) for number in numbers])
