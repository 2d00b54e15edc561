"""A desk where several hands wish rows of one program, each for itself."""

from fewtraps.answers import answer_to
from fewtraps.errors import (
    BadName, BadNumber, BadPlace, BadText, NoName, NoPlace, NothingToRedo, NothingToUndo, NotWished, TooMany, Twice)
from fewtraps.hands import Hand
from fewtraps.maps import check_traps_number, number_within
from fewtraps.orders import read_order
from fewtraps.programs import made_program, map_of
from fewtraps.words import is_name

MOST_HANDS = 20


class Desk:
    """A program, a number of traps, and what each hand wishes."""

    def __init__(self, program, k):
        made_program(program)
        check_traps_number(k)
        self.program = program
        self.k = k
        # A hand is here from its first wish on.
        self.hands = {}

    def wish(self, hand, place):
        """Let the hand wish the place."""
        if self._is_wished_by(hand, place):
            raise Twice(0)
        if hand not in self.hands:
            if len(self.hands) == MOST_HANDS:
                raise TooMany(MOST_HANDS + 1)
            self.hands[hand] = Hand()
        self.hands[hand].turn(place)

    def strike(self, hand, place):
        """Take the hand's wish of the place back."""
        if not self._is_wished_by(hand, place):
            raise NotWished(0)
        self.hands[hand].turn(place)

    def undo(self, hand):
        """Take back the last wish or strike of the hand that was not taken back yet."""
        check_hand(hand)
        if hand not in self.hands or not self.hands[hand].undo():
            raise NothingToUndo(hand)

    def redo(self, hand):
        """Do again what the hand took back last and has not done again since."""
        check_hand(hand)
        if hand not in self.hands or not self.hands[hand].redo():
            raise NothingToRedo(hand)

    def slots(self, k):
        """Set the number of traps."""
        check_traps_number(k)
        self.k = k

    def wished(self):
        """Return the places that at least one hand wishes, ascending."""
        return tuple(sorted({place for hand in self.hands.values() for place in hand.places}))

    def map(self):
        """Return the map of the program with these places wished."""
        return map_of(self.program, self.wished())

    def hands_of(self, place):
        """Return the names of the hands that wish the place, ascending."""
        self._check_place(place)
        return tuple(sorted([name for name, hand in self.hands.items() if place in hand.places]))

    def row(self, text):
        """Carry out a row; return its answer."""
        # These are all errors that can come up: in what has been read there is no wrong name, place or standing.
        try:
            return self._answer_to(read_order(text, self.program))
        except BadText:
            return "refused BadText"
        except BadNumber:
            return "refused BadNumber"
        except TooMany:
            return "refused TooMany"
        except NoName:
            return "refused NoName"
        except NoPlace:
            return "refused NoPlace"
        except Twice:
            return "refused Twice"
        except NotWished:
            return "refused NotWished"
        except NothingToUndo:
            return "refused NothingToUndo"
        except NothingToRedo:
            return "refused NothingToRedo"

    def _is_wished_by(self, hand, place):
        """Return whether the hand wishes the place; raise what wish and strike raise for no name and no place."""
        check_hand(hand)
        self._check_place(place)
        return hand in self.hands and place in self.hands[hand].places

    def _check_place(self, thing):
        if not number_within(thing, 0, len(self.program[2]) - 1):
            raise BadPlace(thing)

    def _answer_to(self, order):
        word = order[0]
        if word == "wish":
            self.wish(order[1], order[2])
        elif word == "strike":
            self.strike(order[1], order[2])
        elif word == "undo":
            self.undo(order[1])
        elif word == "redo":
            self.redo(order[1])
        elif word == "slots":
            self.slots(order[1])
        else:
            return answer_to(order, self.program, self.map(), self.k)
        return "ok"


def check_hand(thing):
    """Raise BadName unless thing is a name."""
    if not is_name(thing):
        raise BadName(thing)
