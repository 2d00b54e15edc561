"""Hands: people who wish places at a desk, each with what it can undo and redo."""

MOST_DEEDS = 100


class Hand:
    """The places that a hand wishes now, and its deeds, which are its wishes and strikes.

    A deed is known by its place alone: it turns whether the place is wished, and so do taking it back and doing it
    again.
    """

    def __init__(self):
        self.places = {}
        self.deeds = []
        self.taken_back = []

    def turn(self, place):
        """Wish the place, or strike it if it is wished."""
        self._turn(place)
        self.taken_back = []
        self.deeds.append(place)
        if len(self.deeds) > MOST_DEEDS:
            self.deeds.pop(0)

    def undo(self):
        """Take the last deed back; return whether there was one."""
        if not self.deeds:
            return False
        place = self.deeds.pop()
        self._turn(place)
        self.taken_back.append(place)
        return True

    def redo(self):
        """Do again the deed that was taken back last; return whether there was one."""
        if not self.taken_back:
            return False
        place = self.taken_back.pop()
        self._turn(place)
        self.deeds.append(place)
        return True

    def _turn(self, place):
        if place in self.places:
            del self.places[place]
        else:
            self.places[place] = True
