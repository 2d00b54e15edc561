"""Standings of threads, their rows and members, and which standings are later."""

from fewtraps.errors import BadStanding, BadThread, Refused, TooMany
from fewtraps.maps import MOST_THREADS, made_map, number_within, place_fits
from fewtraps.pieces import piece_table, unwished_pieces
from fewtraps.reach import reached_unwished

MOST_ROWS = 400


def made_standing(chart, thing):
    """Return the standing; raise BadStanding if thing is not one."""
    made_map(chart)
    if not isinstance(thing, tuple) or not 1 <= len(thing) <= MOST_THREADS:
        raise BadStanding(-1)
    for index, place in enumerate(thing):
        if not place_fits(chart, place):
            raise BadStanding(index)
    return thing


def is_standing(chart, thing):
    """Return whether thing is a standing of the map."""
    try:
        made_standing(chart, thing)
    except Refused:
        return False
    return True


def row_of(chart, standing):
    """Return the row of the standing: the least place of each piece in which a thread is."""
    made_standing(chart, standing)
    table = piece_table(chart)
    return tuple([table[place][0] for place in standing])


def members(chart, standing):
    """Return all places of the pieces in which the threads are, ascending."""
    made_standing(chart, standing)
    table = piece_table(chart)
    return tuple(sorted({member for place in standing for member in table[place]}))


def is_later(chart, one, two):
    """Return whether two is a standing that is later than the standing one."""
    if not is_standing(chart, one) or not is_standing(chart, two) or len(one) != len(two):
        return False
    table = piece_table(chart)
    return all([b in later_places(chart, table, a) for a, b in zip(one, two)])


def later_rows(chart, standing):
    """Return the rows that are later than the standing, ascending."""
    made_standing(chart, standing)
    table = piece_table(chart)
    check_size(chart, table, len(standing))
    rows = [()]
    for place in standing:
        firsts = sorted({table[later][0] for later in later_places(chart, table, place)})
        rows = [row + (first,) for row in rows for first in firsts]
    return tuple(rows)


def later_places(chart, table, place):
    """Return the list of the places at which a thread of this place is in later standings."""
    return list(table[place]) + reached_unwished(chart, (place,))


def check_size(chart, table, threads):
    """Raise TooMany if the map has more rows for so many threads than are gone through."""
    single = len(unwished_pieces(chart, table)) + len(chart[2])
    size = 1
    for _ in range(threads):
        size = size * single
    if size > MOST_ROWS:
        raise TooMany(size)


def thread_fits(standing, thing):
    """Return whether thing is the number of a thread of the standing."""
    return number_within(thing, 0, len(standing) - 1)


def check_thread(standing, thing):
    """Raise BadThread unless thing is the number of a thread of the standing."""
    if not thread_fits(standing, thing):
        raise BadThread(thing)
