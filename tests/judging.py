"""Plain judges of ways and papers, straight from the words of the document, and ways to spoil a paper."""

from tests.reckoning import Reckoning


def is_count(thing, least):
    return type(thing) is int and thing >= least


def is_lot(chart, thing):
    if type(thing) is not tuple or any(type(place) is not int for place in thing):
        return False
    return list(thing) == sorted(set(thing) & set(range(chart[0])))


def is_standing(chart, thing, threads):
    if type(thing) is not tuple or len(thing) != threads:
        return False
    return all(type(place) is int and 0 <= place < chart[0] for place in thing)


def is_entries(thing, items):
    return type(thing) is tuple and all(type(entry) is tuple and len(entry) == items for entry in thing)


def right_ways(chart, lot, free, count, thing):
    """Return whether thing is a tuple of so many ways from the lot that share nothing but free places."""
    places, roads, wished = chart
    if type(thing) is not tuple or len(thing) != count:
        return False
    left = []
    for way in thing:
        if type(way) is not tuple or len(way) < 2 or any(type(place) is not int for place in way):
            return False
        if any(pair not in roads for pair in zip(way, way[1:])):
            return False
        if way[0] not in lot or [place in wished for place in way[1:]] != [False] * (len(way) - 2) + [True]:
            return False
        left += [place for place in way[1:] if place in wished or (place not in free and place not in lot)]
    return len(set(left)) == len(left)


def right_endless(chart, k, standing, thing):
    reckoning = Reckoning(chart)
    if type(thing) is not tuple or len(thing) != 2 or not is_standing(chart, thing[0], len(standing)):
        return False
    row, ways = thing
    if reckoning.row(row) != row or not reckoning.is_later(standing, row):
        return False
    return right_ways(chart, reckoning.members(row), (), k + 1, ways)


def right_rows(reckoning, standing, thing):
    """Return whether the entries of thing stand under rows of as many threads, ascending."""
    if not is_entries(thing, 3) or not all(is_standing(reckoning.chart, entry[0], len(standing)) for entry in thing):
        return False
    rows = [entry[0] for entry in thing]
    return all(reckoning.row(row) == row for row in rows) and rows == sorted(set(rows))


def right_book(chart, k, standing, thing):
    reckoning = Reckoning(chart)
    if not right_rows(reckoning, standing, thing):
        return False
    if not all(is_lot(chart, traps) and len(traps) <= k and is_count(j, 0) for _, traps, j in thing):
        return False
    numbers = {row: j for row, _, j in thing}
    if reckoning.row(standing) not in numbers:
        return False
    for row, traps, j in thing:
        if reckoning.walked(reckoning.members(row), traps)[2]:
            return False
        if any(outcome not in numbers or numbers[outcome] >= j for outcome in reckoning.outcomes(row, traps)):
            return False
    return True


def right_floor(chart, k, standing, thing):
    reckoning = Reckoning(chart)
    if not right_rows(reckoning, standing, thing) or not all(is_count(h, 1) for _, h, _ in thing):
        return False
    if not all(reckoning.is_later(standing, row) for row, _, _ in thing):
        return False
    numbers = {row: h for row, h, _ in thing}
    for row, h, ways in thing:
        free = [w for w in reckoning.unwished for i, place in enumerate(row) if w in reckoning.come[place]
                and numbers.get(reckoning.row(row[:i] + (w,) + row[i + 1:]), 0) >= h - 1]
        if not right_ways(chart, reckoning.members(row), free, k + 1, ways):
            return False
    return True


def right_unsafe(chart, k, a, thing):
    if not is_entries(thing, 2) or not thing:
        return False
    told = [place for place, _ in thing]
    if any(type(place) is not int or not 0 <= place < chart[0] for place in told) or len(set(told)) < len(told):
        return False
    if told[-1] != a or any(place in chart[2] for place in told[:-1]):
        return False
    return all(right_ways(chart, (place,), told[:index], k + 1, ways) for index, (place, ways) in enumerate(thing))


def spoiled(thing, chart):
    """Yield values that differ from thing in one part: nested tuples of numbers, as papers are."""
    yield from (None, "way", True, False, -1, 60, [])
    if isinstance(thing, int):
        yield from (thing - 1, thing + 1, str(thing), (thing,), chart[0])
        if thing in (0, 1):
            yield bool(thing)
        return
    yield from (list(thing), thing + (thing,), thing + (0,), ((),) + thing, ())
    if len(thing) > 1:
        yield thing[::-1]
    for index, part in enumerate(thing):
        before, behind = thing[:index], thing[index + 1:]
        yield before + behind
        yield before + (part,) + thing[index:]
        for other in spoiled(part, chart):
            yield before + (other,) + behind


def nested(depth):
    """Return a value that is nested so deep, with values of all kinds in it."""
    thing = ()
    for _ in range(depth):
        thing = (thing, 1, "a", None, True)
    return thing


# Values that are no paper, whatever the map is.
ODD = (None, True, False, 0, 5, -1, "", "way", [], (None,), (0,), (True,), ("a",), ((),), (((),),),
       ((None, None, None),), ((0, 0, 0),), (((0,), (), 0, 0),), (((0,), ()),), ((0, ()),), nested(3), nested(19),
       (nested(18), nested(18)),
       ((nested(17), nested(17), nested(17)),), ((nested(17), nested(17)),))
