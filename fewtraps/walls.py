"""The least walls of a lot: how many places they have, the nearest and the farthest one."""

from fewtraps.maps import check_lot, made_map
from fewtraps.nets import flow_of


def wall(chart, lot):
    """Return the number of places of the least walls."""
    return len(near(chart, lot))


def near(chart, lot):
    """Return the nearest of the least walls."""
    made_map(chart)
    check_lot(chart, lot)
    return flow_of(chart, lot, ()).near()


def far(chart, lot):
    """Return the farthest of the least walls."""
    made_map(chart)
    check_lot(chart, lot)
    return flow_of(chart, lot, ()).far()
