"""Words of texts: which ones are kept, which are names, and which are numbers."""

KEPT_WORDS = (
    "go", "if", "switch", "end", "ask", "wish", "strike", "undo", "redo", "slots", "wished", "pieces", "walls",
    "enough", "bound", "lay", "curve", "safe", "writes", "places", "roads", "nothing", "none", "yes", "no",
)
MOST_SIGNS_OF_NAME = 12


def is_name(thing):
    """Return whether thing is a name."""
    if not isinstance(thing, str) or not 1 <= len(thing) <= MOST_SIGNS_OF_NAME:
        return False
    if not all([is_small_letter(sign) or is_figure(sign) for sign in thing]):
        return False
    return is_small_letter(thing[0]) and thing not in KEPT_WORDS


def is_numeral(word):
    """Return whether the word is a number as it is written."""
    return word == "0" or (word != "" and word[0] != "0" and all([is_figure(sign) for sign in word]))


def is_small_letter(sign):
    """Return whether the sign is a small letter from a to z."""
    return "a" <= sign <= "z"


def is_figure(sign):
    """Return whether the sign is a figure from 0 to 9."""
    return "0" <= sign <= "9"
