"""Surveys: what is worked out once for a map, however many rows and traps are tried on it."""

from fewtraps.nets import Net
from fewtraps.pieces import piece_table
from fewtraps.reach import reached_unwished


class Survey:
    """The pieces of a map, to which of them each place comes, and the net of its roads."""

    def __init__(self, chart):
        self.chart = chart
        self.table = piece_table(chart)
        self.net = Net(chart)
        # A piece is known by its least place.
        self.firsts = []
        self.ranks = []
        for place in range(chart[0]):
            comes = reached_unwished(chart, (place,))
            self.firsts.append(sorted({self.table[other][0] for other in comes}))
            self.ranks.append(len({other for other in comes + list(self.table[place])}))

    def row_from(self, standing):
        """Return the row of the standing."""
        return tuple([self.table[place][0] for place in standing])

    def members_of(self, row):
        """Return all places of the pieces of the row, ascending."""
        return tuple(sorted({member for place in row for member in self.table[place]}))

    def unwished_in(self, firsts):
        """Return the unwished places of the pieces with these least places, ascending."""
        return tuple(sorted({place for first in firsts for place in self.table[first]}))

    def rank_of(self, row):
        """Return a number that is smaller for each other row that is later."""
        return sum([self.ranks[place] for place in row])
