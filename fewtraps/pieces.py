"""The pieces of a map: its rings of unwished places, and single places."""

from fewtraps.maps import check_place, made_map, unwished_of
from fewtraps.reach import reached_unwished


def piece(chart, a):
    """Return the piece of place a, ascending."""
    made_map(chart)
    check_place(chart, a)
    return piece_table(chart)[a]


def pieces(chart):
    """Return the pieces of all unwished places, in the order of their least places."""
    made_map(chart)
    return tuple(unwished_pieces(chart, piece_table(chart)))


def piece_table(chart):
    """Return a list with the piece of each place."""
    unwished = unwished_of(chart)
    comes_to = {a: {b: True for b in reached_unwished(chart, (a,))} for a in unwished}
    table = [(a,) for a in range(chart[0])]
    for a in unwished:
        # A place belongs to its piece even if it never comes back to itself.
        table[a] = tuple([b for b in unwished if a == b or (b in comes_to[a] and a in comes_to[b])])
    return table


def unwished_pieces(chart, table):
    """Return the list of what pieces returns, from the table of all pieces."""
    return [table[place] for place in unwished_of(chart) if table[place][0] == place]
