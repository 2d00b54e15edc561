"""The nearest of the least walls of a lot that use no free place."""

from fewtraps.maps import check_free, check_lot, made_map
from fewtraps.nets import flow_of


def pinch(chart, lot, free):
    """Return the nearest least lot without free places that cuts the lot."""
    made_map(chart)
    check_lot(chart, lot)
    check_free(chart, free)
    return flow_of(chart, lot, free).near()
