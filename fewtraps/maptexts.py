"""The reader and the printer of maps."""

from fewtraps.errors import BadNumber, NoPlace, TooMany, Twice
from fewtraps.maps import MOST_PLACES, MOST_ROADS, made_map
from fewtraps.readers import Reader


def read_map(text):
    """Return the map that the text tells."""
    reader = Reader(text)
    reader.one_of(("places",))
    places = read_many(reader)
    reader.one_of((";",))
    reader.one_of(("roads",))
    roads = read_roads(reader, places)
    reader.one_of((";",))
    reader.one_of(("wished",))
    wished = read_wished(reader, places)
    reader.check_end()
    return (places, tuple(sorted(roads)), tuple(sorted(wished)))


def print_map(chart):
    """Return the text of the map."""
    places, roads, wished = made_map(chart)
    told = ",".join([" " + str(a) + " " + str(b) for a, b in roads])
    return "places " + str(places) + "; roads" + told + "; wished" + "".join([" " + str(a) for a in wished])


def read_many(reader):
    """Return the number of places of the map."""
    place = reader.place()
    many = reader.number()
    if many > MOST_PLACES:
        raise BadNumber(place)
    return many


def read_roads(reader, places):
    """Return a dict of all roads."""
    roads = {}
    if reader.at_number():
        read_road(reader, places, roads)
        while reader.skips(","):
            read_road(reader, places, roads)
    return roads


def read_road(reader, places, roads):
    """Read one more road."""
    place = reader.place()
    a = reader.number()
    if len(roads) == MOST_ROADS:
        raise TooMany(place)
    check_told(places, a, place)
    place = reader.place()
    b = reader.number()
    check_told(places, b, place)
    if (a, b) in roads:
        raise Twice(place)
    roads[(a, b)] = True


def read_wished(reader, places):
    """Return a dict of all wished places."""
    wished = {}
    while reader.at_number():
        place = reader.place()
        a = reader.number()
        check_told(places, a, place)
        if a in wished:
            raise Twice(place)
        wished[a] = True
    return wished


def check_told(places, a, place):
    """Raise NoPlace unless a, told at this place of the text, is a place of the map."""
    if a >= places:
        raise NoPlace(place)
