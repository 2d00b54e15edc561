"""Nets: how many ways from a lot share nothing but free places, and where they can be cut."""

from fewtraps.maps import places_next
from fewtraps.reach import reached_unwished

# More than the ways that can end at 60 wished places.
MANY = 61


def arriving(place):
    """Return the side of a place at which roads arrive."""
    return 2 * place


def leaving(place):
    """Return the side of a place from which roads leave."""
    return 2 * place + 1


class Net:
    """As many ways from a lot as share nothing but free places.

    A place has two sides, and room between them for one way, or for many if it is free. What a way uses of the room
    in one direction it adds in the other one, so that a later way may push it aside. No way comes back to an
    unwished place of the lot, as it could begin there instead.
    """

    def __init__(self, chart, lot, free):
        self.chart = chart
        self.lot = lot
        self.inner = [place for place in reached_unwished(chart, lot) if place not in lot]
        self.roads = self._roads_of_ways()
        self.room = {}
        self.beside = {}
        self.ended = {}
        for place in range(chart[0]):
            self.beside[arriving(place)] = []
            self.beside[leaving(place)] = []
        for place in self.inner:
            self._join(arriving(place), leaving(place), MANY if place in free else 1)
        for a, b in self.roads:
            self._join(leaving(a), arriving(b), MANY)
        self._fill()

    def near(self):
        """Return the nearest of the least cuts."""
        came = self._came_from_lot()
        region = list(self.lot) + [place for place in self.inner if leaving(place) in came]
        return places_next(self.chart, region)

    def far(self):
        """Return the farthest of the least cuts."""
        onward = self._spread([arriving(place) for place in self.chart[2] if place not in self.ended], True)
        region = list(self.lot) + [place for place in self.inner if leaving(place) not in onward]
        return places_next(self.chart, region)

    def ways(self):
        """Return the ways, in the order of the wished places at which they end."""
        used = {(a, b): self.room[(arriving(b), leaving(a))] for a, b in self.roads}
        found = []
        for end in sorted(self.ended):
            found.append(self._way_to(end, used))
        return tuple(found)

    def _join(self, side, other, room):
        self.room[(side, other)] = room
        self.room[(other, side)] = 0
        self.beside[side].append(other)
        self.beside[other].append(side)

    def _roads_of_ways(self):
        wished = set(self.chart[2])
        inner = set(self.inner)
        begins = set(list(self.lot) + self.inner)
        # A road from an inner place to itself brings no way on.
        return [(a, b) for a, b in self.chart[1] if a in begins and (b in wished or (b in inner and a != b))]

    def _fill(self):
        came = self._came_from_lot()
        end = self._further_end(came)
        while end is not None:
            self._add_way(came, end)
            came = self._came_from_lot()
            end = self._further_end(came)

    def _further_end(self, came):
        for place in self.chart[2]:
            if place not in self.ended and arriving(place) in came:
                return place
        return None

    def _add_way(self, came, end):
        self.ended[end] = True
        side = arriving(end)
        while came[side] is not None:
            self.room[(came[side], side)] -= 1
            self.room[(side, came[side])] += 1
            side = came[side]

    def _came_from_lot(self):
        return self._spread([leaving(place) for place in self.lot], False)

    def _spread(self, starts, back):
        """Return a dict: for each side to which there is room from the starts, or back, the side before it."""
        came = {side: None for side in starts}
        waiting = list(starts)
        while waiting:
            side = waiting.pop()
            for other in self.beside[side]:
                pair = (other, side) if back else (side, other)
                if other not in came and self.room[pair] > 0:
                    came[other] = side
                    waiting.append(other)
        return came

    def _way_to(self, end, used):
        """Return the way that ends here, and take its roads out of those that are used."""
        way = [end]
        place = self._place_before(end, used)
        while place not in self.lot:
            # Ways that pushed one another aside may have left a ring: it is cut out.
            if place in way:
                way = way[:way.index(place)]
            way.append(place)
            place = self._place_before(place, used)
        way.append(place)
        return tuple(way[::-1])

    def _place_before(self, place, used):
        for a, b in self.roads:
            if b == place and used[(a, b)] > 0:
                used[(a, b)] -= 1
                return a
        return None
