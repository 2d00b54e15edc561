"""Nets: how many ways from a lot share nothing but free places, and where they can be cut."""

from fewtraps.maps import places_next
from fewtraps.reach import reached_unwished

# More than the ways that can end at 60 wished places.
MANY = 61


def flow_of(chart, lot, free):
    """Return as many ways from the lot as share nothing but free places."""
    return Flow(Net(chart), lot, free, MANY)


def arriving(place):
    """Return the side of a place at which roads arrive."""
    return 2 * place


def leaving(place):
    """Return the side of a place from which roads leave."""
    return 2 * place + 1


def gate(place):
    """Return the number of the path from the side of a place at which roads arrive to the other side."""
    return 2 * place


class Net:
    """The paths of a map by which ways go, the same for all lots and free places.

    A place has two sides. A path leads from one to the other, which is its gate, and one along each road. Each path
    has an even number, and the number behind it stands for going back: what a way uses of the room in one direction
    it adds in the other one, so that a later way may push it aside.
    """

    def __init__(self, chart):
        self.chart = chart
        self.beside = [[] for _ in range(2 * chart[0])]
        self.toward = []
        self.rooms = []
        self.finish = {arriving(place): True for place in chart[2]}
        for place in range(chart[0]):
            # No way goes through a wished place.
            self._join(arriving(place), leaving(place), 0 if arriving(place) in self.finish else 1)
        for a, b in chart[1]:
            # A road from an unwished place to itself brings no way on.
            if a != b or arriving(b) in self.finish:
                self._join(leaving(a), arriving(b), MANY)

    def _join(self, side, other, room):
        self.beside[side].append(len(self.toward))
        self.toward.append(other)
        self.rooms.append(room)
        self.beside[other].append(len(self.toward))
        self.toward.append(side)
        self.rooms.append(0)


class Flow:
    """As many ways from a lot as share nothing but free places; no more than one above `most`.

    No way comes back to an unwished place of the lot, as it could begin there instead.
    """

    def __init__(self, net, lot, free, most):
        self.net = net
        self.lot = lot
        self.room = list(net.rooms)
        for place in free:
            self.room[gate(place)] = MANY
        for place in lot:
            self.room[gate(place)] = 0
        self.ended = {}
        self.came = {}
        self._fill(most)

    def many(self):
        """Return the number of the ways."""
        return len(self.ended)

    def near(self):
        """Return the nearest of the least cuts; there are no more ways than were let."""
        chart = self.net.chart
        return places_next(chart, [place for place in range(chart[0]) if leaving(place) in self.came])

    def far(self):
        """Return the farthest of the least cuts; there are no more ways than were let."""
        onward = self._sides_before_ends()
        chart = self.net.chart
        inner = [place for place in reached_unwished(chart, self.lot) if leaving(place) not in onward]
        return places_next(chart, list(self.lot) + inner)

    def ways(self):
        """Return the ways, in the order of the wished places at which they end."""
        used = list(self.room)
        found = []
        for end in sorted(self.ended):
            found.append(self._way_to(end // 2, used))
        return tuple(found)

    def _fill(self, most):
        end = self._further_end()
        while end is not None:
            self._add_way(end)
            end = self._further_end() if len(self.ended) <= most else None

    def _further_end(self):
        """Go from the lot wherever there is room; return the first side where one more way can end, None if none."""
        net = self.net
        came = {leaving(place): None for place in self.lot}
        self.came = came
        waiting = list(came)
        while waiting:
            side = waiting.pop()
            for path in net.beside[side]:
                other = net.toward[path]
                if other not in came and self.room[path] > 0:
                    came[other] = path
                    if other in net.finish and other not in self.ended:
                        return other
                    waiting.append(other)
        return None

    def _add_way(self, end):
        self.ended[end] = True
        path = self.came[end]
        while path is not None:
            self.room[path] -= 1
            self.room[path ^ 1] += 1
            path = self.came[self.net.toward[path ^ 1]]

    def _sides_before_ends(self):
        """Return a dict of the sides from which there is room to an end where no way ends."""
        net = self.net
        found = {end: True for end in net.finish if end not in self.ended}
        waiting = list(found)
        while waiting:
            side = waiting.pop()
            for path in net.beside[side]:
                other = net.toward[path]
                if other not in found and self.room[path ^ 1] > 0:
                    found[other] = True
                    waiting.append(other)
        return found

    def _way_to(self, end, used):
        """Return the way that ends here, and take its roads out of those that are used."""
        way = [end]
        place = self._place_before(end, used)
        while place not in self.lot:
            # Ways that pushed one another aside may have left a ring: it is cut out.
            if place in way:
                way = way[:way.index(place)]
            way.append(place)
            place = self._place_before(place, used)
        way.append(place)
        return tuple(way[::-1])

    def _place_before(self, place, used):
        for path in self.net.beside[arriving(place)]:
            # Of the paths here those back along a road have odd numbers.
            if path & 1 and used[path] > 0:
                used[path] -= 1
                return self.net.toward[path] // 2
        return None
