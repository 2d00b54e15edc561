"""A plain desk: lists of wishes and strikes, from which all else is reckoned anew each time."""

from fewtraps.bounds import bound, curve, lay
from fewtraps.enough import enough
from fewtraps.errors import Refused
from fewtraps.never import safe
from fewtraps.pieces import pieces
from fewtraps.walls import wall
from tests.runs import plain_roads
from tests.texts import PlainOrder, kind_of, plain_read


class PlainDesk:
    """A desk by [15]. Each method returns what it does, or the name of an error and what it tells."""

    def __init__(self, program, k):
        self.program, self.k = program, k
        # For each hand that has wished: all that counts now, how much of it is forgotten, and what can be done again.
        self.done, self.forgotten, self.undone = {}, {}, {}

    def wishes(self, hand):
        """Return what the hand wishes now, from its first wish on."""
        found = set()
        for word, place in self.done.get(hand, []):
            (found.add if word == "wish" else found.remove)(place)
        return found

    def wrong(self, hand, place=0):
        if not isinstance(hand, str) or kind_of(hand) != "a name":
            return "BadName", hand
        if isinstance(place, bool) or not isinstance(place, int) or not 0 <= place < len(self.program[2]):
            return "BadPlace", place

    def deed(self, word, hand, place):
        wrong = self.wrong(hand, place)
        if wrong:
            return wrong
        if (place in self.wishes(hand)) == (word == "wish"):
            return ("Twice" if word == "wish" else "NotWished"), 0
        if hand not in self.done:
            if len(self.done) == 20:
                return "TooMany", 21
            self.done[hand], self.forgotten[hand] = [], 0
        self.done[hand].append((word, place))
        self.undone[hand] = []
        if len(self.done[hand]) - self.forgotten[hand] > 100:
            self.forgotten[hand] += 1
        return None

    def undo(self, hand):
        if self.wrong(hand):
            return self.wrong(hand)
        if len(self.done.get(hand, [])) == self.forgotten.get(hand, 0):
            return "NothingToUndo", hand
        self.undone[hand].append(self.done[hand].pop())
        return None

    def redo(self, hand):
        if self.wrong(hand):
            return self.wrong(hand)
        if not self.undone.get(hand):
            return "NothingToRedo", hand
        self.done[hand].append(self.undone[hand].pop())
        return None

    def wished(self):
        return tuple(sorted(set().union(*map(self.wishes, self.done))))

    def map(self):
        return len(self.program[2]), plain_roads(self.program), self.wished()

    def hands_of(self, place):
        return tuple(sorted(hand for hand in self.done if place in self.wishes(hand)))

    def row(self, text):
        """Return the answer to a row."""
        word, value = plain_read(text, PlainOrder(self.program))
        if word != "value":
            return "refused " + word
        if kind_of(value[0]) == "a name":
            hand, word = value[:2]
            error = self.deed(word, hand, value[2]) if len(value) > 2 else getattr(self, word)(hand)
            return "ok" if error is None else "refused " + error[0]
        if value[0] == "slots":
            if value[1] > 8:
                return "refused BadNumber"
            self.k = value[1]
            return "ok"
        try:
            return self.answer(*value)
        except Refused as error:
            return "refused " + type(error).__name__

    def answer(self, word, *places):
        """Return the answer to a question, by the functions."""
        chart, k = self.map(), self.k
        match word:
            case "wished":
                return self.told(chart[2])
            case "pieces":
                return "; ".join(map(self.told, pieces(chart))) or "nothing"
            case "walls":
                return "; ".join(self.told(piece) + ": %d" % wall(chart, piece) for piece in pieces(chart)) or "nothing"
            case "writes":
                return self.told([at for at, row in enumerate(self.program[2])
                                  if row[0] in ("put", "sum", "ask") and row[1] == places[0]])
            case "enough":
                return str(enough(chart, places))
            case "bound":
                return str(bound(chart, k, places)).lower()
            case "lay":
                traps = lay(chart, k, places)
                return "none" if traps is None else self.told(traps)
            case "curve":
                return " ".join(str(number) for number in curve(chart, places)).replace("None", "none")
            case "safe":
                return "yes" if safe(chart, k, places[0]) else "no"

    def told(self, places):
        return " ".join(self.program[1][place] or str(place) for place in places) or "nothing"


def told_by(desk, rows):
    """Return all that a desk tells about its wishes, and its answers to some rows."""
    return (desk.wished(), desk.map(), [desk.hands_of(place) for place in range(len(desk.program[2]))],
            [desk.row(text) for text in rows])
