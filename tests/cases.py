"""What several tests need: a test case that expects errors, and maps to test with."""

import itertools
import random
import unittest

M = (8, ((0, 0), (0, 1), (1, 2), (1, 3), (2, 4), (2, 5), (3, 6), (3, 7)), (4, 5, 6, 7))
M2 = (7, ((0, 1), (0, 2), (1, 0), (1, 4), (2, 3), (2, 5), (3, 0), (3, 6)), (4, 5, 6))
M3 = (7, M2[1], (0, 4, 5, 6))
EMPTY = (0, (), ())
SELF = (1, ((0, 0),), (0,))
CHAIN = (4, ((0, 1), (1, 2), (2, 3)), (3,))

CHAIN60 = (60, tuple((a, a + 1) for a in range(59)), (59,))
RING60 = (60, tuple(sorted((a, (a + 1) % 60) for a in range(60))), ())
FULL60 = (60, tuple(sorted((a, (a + step) % 60) for a in range(60) for step in (1, 2, 3, 4))), tuple(range(50, 60)))

# Some values that are no map, one for each way to be wrong.
NO_MAPS = (
    None, 5, "map", True, (), (1, ()), [0, (), ()], (0, (), (), ()),
    (-1, (), ()), (61, (), ()), (True, (), ()), ("1", (), ()), (None, (), ()),
    (1, [], ()), (1, None, ()), (1, ((0, 0), (0, 0)), ()), (2, ((0, 2),), ()), (2, (0,), ()), (2, ([0, 1],), ()),
    (1, (), []), (1, (), (1,)), (2, (), (0, 0)), (2, (), (True,)),
)

# Some values that are no lot of a map of three places.
NO_LOTS = (None, 1, "", True, [], [0], {0}, (3,), (-1,), (1, 0), (1, 1), (0, 1, 3), (True,), (False,), ("0",), (None,),
           ((0,),), (0, (1,)))


class Case(unittest.TestCase):
    def refused(self, error, what, function, *arguments, **named):
        """Expect just this error, with just this `what`."""
        with self.assertRaises(error) as caught:
            function(*arguments, **named)
        self.assertIs(type(caught.exception), error)
        self.same(caught.exception.what, what)

    def same(self, one, other):
        """Expect equal values, in which True is not taken for 1 nor a list for a tuple."""
        self.assertEqual(one, other)
        self.assertEqual(repr(one), repr(other))

    def by_names(self, function, **arguments):
        """Expect the same with the arguments by position and by name, from the last to the first; return it."""
        forward = function(*arguments.values())
        self.same(function(**dict(reversed(list(arguments.items())))), forward)
        self.same(function(*arguments.values()), forward)
        return forward


def lots_of(places):
    """Return all lots of these places."""
    places = tuple(places)
    return [lot for size in range(len(places) + 1) for lot in itertools.combinations(places, size)]


def all_maps(places):
    """Yield all maps of so many places."""
    for roads in lots_of(itertools.product(range(places), repeat=2)):
        for wished in lots_of(range(places)):
            yield (places, roads, wished)


def some_maps(count, least, most, seed):
    """Yield maps of several sizes with few to many roads, the same ones at each call."""
    chance = random.Random(seed)
    for _ in range(count):
        places = chance.randint(least, most)
        pairs = list(itertools.product(range(places), repeat=2))
        roads = tuple(sorted(chance.sample(pairs, chance.randint(places // 2, 2 * places))))
        yield (places, roads, some_lot(chance, range(places)))


def some_lot(chance, places):
    """Return a lot of some of these places."""
    share = chance.choice((0.2, 0.5))
    return tuple(place for place in places if chance.random() < share)
