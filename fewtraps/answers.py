"""Answers: what a desk tells about its map, in words."""

from fewtraps.bounds import bound, curve, lay
from fewtraps.enough import enough
from fewtraps.never import safe
from fewtraps.pieces import pieces
from fewtraps.programs import writes
from fewtraps.walls import wall


def answer_to(order, program, chart, k):
    """Return the answer to an order that asks for something: a text."""
    word = order[0]
    labels = program[1]
    if word == "wished":
        return places_text(labels, chart[2])
    if word == "writes":
        return places_text(labels, writes(program, order[1]))
    if word == "pieces":
        return pieces_text([joined(labels, piece) for piece in pieces(chart)])
    if word == "walls":
        return pieces_text([joined(labels, piece) + ": " + str(wall(chart, piece)) for piece in pieces(chart)])
    if word == "safe":
        return "yes" if safe(chart, k, order[1]) else "no"
    return answer_about(word, labels, chart, k, order[1])


def answer_about(word, labels, chart, k, standing):
    """Return the answer to an order that asks for something of a standing."""
    if word == "enough":
        return str(enough(chart, standing))
    if word == "bound":
        return number_text(bound(chart, k, standing))
    if word == "curve":
        return " ".join([number_text(number) for number in curve(chart, standing)])
    traps = lay(chart, k, standing)
    return "none" if traps is None else places_text(labels, traps)


def number_text(number):
    """Return the text of a bound, which may be None."""
    return "none" if number is None else str(number)


def joined(labels, places):
    """Return the labels of the places, or the number of a place that has none."""
    return " ".join([labels[place] if labels[place] != "" else str(place) for place in places])


def places_text(labels, places):
    """Return the text of the places, of which there may be none."""
    return joined(labels, places) if len(places) > 0 else "nothing"


def pieces_text(texts):
    """Return the text of the pieces with these texts, of which there may be none."""
    return "; ".join(texts) if len(texts) > 0 else "nothing"
