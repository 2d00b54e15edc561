"""What several tests need: a test case that expects errors, and maps to test with."""

import itertools
import random
import unittest

from fewtraps.errors import BadMap, BadNumber, BadStanding, BadWish, TooMany

M = (8, ((0, 0), (0, 1), (1, 2), (1, 3), (2, 4), (2, 5), (3, 6), (3, 7)), (4, 5, 6, 7))
M2 = (7, ((0, 1), (0, 2), (1, 0), (1, 4), (2, 3), (2, 5), (3, 0), (3, 6)), (4, 5, 6))
M3 = (7, M2[1], (0, 4, 5, 6))
EMPTY = (0, (), ())
SELF = (1, ((0, 0),), (0,))
CHAIN = (4, ((0, 1), (1, 2), (2, 3)), (3,))

CHAIN60 = (60, tuple((a, a + 1) for a in range(59)), (59,))
RING60 = (60, tuple(sorted((a, (a + 1) % 60) for a in range(60))), ())
FULL60 = (60, tuple(sorted((a, (a + step) % 60) for a in range(60) for step in (1, 2, 3, 4))), tuple(range(50, 60)))
# 30 places one behind the other, from each of which a road leads to a wished place of its own, too.
SPINE = (60, tuple(sorted([(a, a + 1) for a in range(29)] + [(a, a + 30) for a in range(30)])), tuple(range(30, 60)))

# Some values that are no map, one for each way to be wrong.
NO_MAPS = (
    None, 5, "map", True, (), (1, ()), [0, (), ()], (0, (), (), ()),
    (-1, (), ()), (61, (), ()), (True, (), ()), ("1", (), ()), (None, (), ()),
    (1, [], ()), (1, None, ()), (1, ((0, 0), (0, 0)), ()), (2, ((0, 2),), ()), (2, (0,), ()), (2, ([0, 1],), ()),
    (1, (), []), (1, (), (1,)), (2, (), (0, 0)), (2, (), (True,)),
)

# Some values that are no lot of a map of three places.
NO_LOTS = (None, 1, "", True, [], [0], {0}, (3,), (-1,), (1, 0), (1, 1), (0, 1, 3), (True,), (False,), ("0",), (None,),
           ((0,),), (0, (1,)))

# Some values that are no number of traps, and some that are no standing of a map of three places, with their error.
NO_COUNTS = (-1, 9, 60, True, False, None, "1", "", (), (1,), [], 1.0)
NO_STANDINGS = ((-1, None), (-1, 0), (-1, "0"), (-1, True), (-1, ()), (-1, [0]), (-1, (0, 0, 0, 0)), (0, (3,)),
                (0, (-1,)), (0, (True,)), (0, (None, 7)), (1, (0, "1")), (1, (2, (0,))), (2, (0, 1, 3)))

# Rows are gone through up to a size of 400, which is 20 for two threads and 7 for three.
SIZES = ((2, 20, 441), (3, 7, 512))


class Case(unittest.TestCase):
    def refused(self, error, what, function, *arguments, **named):
        """Expect just this error, with just this `what`."""
        with self.assertRaises(error) as caught:
            function(*arguments, **named)
        self.assertIs(type(caught.exception), error)
        self.same(caught.exception.what, what)

    def same(self, one, other):
        """Expect equal values, in which True is not taken for 1 nor a list for a tuple."""
        self.assertEqual(one, other)
        self.assertEqual(repr(one), repr(other))

    def plain(self, thing, *more):
        """Expect nothing but tuples, numbers, True, False, None, and what else is told; return it."""
        self.assertIn(type(thing), (tuple, int, bool, type(None)) + more)
        for item in thing if isinstance(thing, tuple) else ():
            self.plain(item, *more)
        return thing

    def checks_arguments(self, function, **more):
        """Expect the errors of the map, of k, and of the standing, in this order; `more` tells k, if any."""
        chart = (3, ((0, 1), (1, 2)), (2,))
        for thing in NO_MAPS:
            with self.assertRaises((BadMap, BadWish)):
                function(chart=thing, standing=None, **{name: 9 for name in more})
        self.refused(BadMap, 0, function, chart=(2, ((0, 2),), 0), standing=(), **{name: None for name in more})
        self.refused(BadWish, 0, function, chart=(2, (), (2,)), standing=(), **{name: None for name in more})
        for thing in NO_COUNTS if more else ():
            self.refused(BadNumber, thing, function, chart=chart, k=thing, standing=(0,))
            self.refused(BadNumber, thing, function, chart=(60, (), ()), k=thing, standing=(60, 0, 0))
        for what, thing in NO_STANDINGS:
            self.refused(BadStanding, what, function, chart=chart, standing=thing, **more)
        self.refused(BadStanding, 2, function, chart=(60, (), ()), standing=(0, 0, 60), **more)
        self.refused(BadStanding, 0, function, chart=EMPTY, standing=(0,), **more)
        self.refused(BadStanding, -1, function, chart=EMPTY, standing=(), **more)

    def checks_size(self, function, **more):
        """Expect TooMany just where there are too many rows, whether by pieces or by wished places."""
        function(chart=(60, (), tuple(range(30))), standing=(59,), **more)
        for threads, most, size in SIZES:
            ring = ((0, 0), (0, 1), (0, 2), (1, 2), (2, 0))
            for wished in ((), (most - 1,), tuple(range(3, most))):
                function(chart=(most, (), wished), standing=(0,) * threads, **more)
                function(chart=(most + 2, ring, wished), standing=(1,) * threads, **more)
                self.refused(TooMany, size, function, chart=(most + 1, (), wished), standing=(0,) * threads, **more)
                self.refused(TooMany, size, function, chart=(most + 3, ring, wished), standing=(1,) * threads, **more)
        self.refused(TooMany, 3600, function, chart=(60, (), (7,)), standing=(59, 59), **more)
        self.refused(TooMany, 216000, function, chart=FULL60, standing=(0, 1, 2), **more)

    def by_names(self, function, **arguments):
        """Expect the same with the arguments by position and by name, from the last to the first; return it."""
        forward = function(*arguments.values())
        self.same(function(**dict(reversed(list(arguments.items())))), forward)
        self.same(function(*arguments.values()), forward)
        return forward


def lots_of(places, most=60):
    """Return all lots of these places, or those of so many at the most."""
    places = tuple(places)
    return [lot for size in range(min(most, len(places)) + 1) for lot in itertools.combinations(places, size)]


def all_maps(places):
    """Yield all maps of so many places."""
    for roads in lots_of(itertools.product(range(places), repeat=2)):
        for wished in lots_of(range(places)):
            yield (places, roads, wished)


def some_maps(count, least, most, seed):
    """Yield maps of several sizes with few to many roads, the same ones at each call."""
    chance = random.Random(seed)
    for _ in range(count):
        places = chance.randint(least, most)
        pairs = list(itertools.product(range(places), repeat=2))
        roads = tuple(sorted(chance.sample(pairs, chance.randint(places // 2, 2 * places))))
        yield (places, roads, some_lot(chance, range(places)))


def some_lot(chance, places):
    """Return a lot of some of these places."""
    share = chance.choice((0.2, 0.5))
    return tuple(place for place in places if chance.random() < share)


def layered_maps(count, least, most, seed):
    """Yield maps with roads from layer to layer and some rings; the last layer is wished, and few other places are."""
    chance = random.Random(seed)
    made = 0
    while made < count:
        sizes = [chance.randint(1, 2)] + [chance.randint(1, 4) for _ in range(chance.randint(1, 3))]
        places = sum(sizes)
        if least <= places <= most:
            made += 1
            layers = [list(range(sum(sizes[:n]), sum(sizes[:n + 1]))) for n in range(len(sizes))]
            roads = {(chance.randrange(places), chance.randrange(places))}
            for here, further in zip(layers, layers[1:]):
                for a in here:
                    roads |= {(a, chance.choice(further)), (a, chance.choice(further))}
                    if chance.random() < 0.3:
                        roads.add((a, chance.choice(here)))
            wished = set(layers[-1]) | set(chance.sample(range(places), chance.choice((0, 0, 1))))
            yield (places, tuple(sorted(roads)), tuple(sorted(wished)))


def standings_of(chart, threads):
    """Return all standings of so many threads."""
    return list(itertools.product(range(chart[0]), repeat=threads))


def spine_maps(count, least, most, seed):
    """Yield maps of places one behind the other, each with a wished end, and more roads and places, numbered anyhow."""
    chance = random.Random(seed)
    for _ in range(count):
        places = chance.randint(least, most)
        length = chance.randint(3, places // 2)
        roads = {(a, a + 1) for a in range(length - 1)} | {(a, length + a) for a in range(length)}
        roads |= {(chance.randrange(places), chance.randrange(2 * length, places + 1) % places) for _ in range(2)}
        if chance.random() < 0.5:
            roads.add((chance.randrange(places), chance.randrange(places)))
        names = chance.sample(range(places), places)
        wished = names[length:2 * length] + names[2 * length:][:chance.randrange(2)]
        yield (places, tuple(sorted((names[a], names[b]) for a, b in roads)), tuple(sorted(wished)))
