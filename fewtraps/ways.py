"""Ways from a lot to wished places that share nothing but free places."""

from fewtraps.maps import check_free, check_lot, made_map
from fewtraps.nets import flow_of


def share(chart, lot, free):
    """Return as many ways that share nothing but free places as there can be."""
    made_map(chart)
    check_lot(chart, lot)
    check_free(chart, free)
    return flow_of(chart, lot, free).ways()
