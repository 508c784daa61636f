"""The call that makes a parcel: write."""

from wholekept.knots import copying_order
from wholekept.parcels import PARCEL_LIMIT
from wholekept.parcels import parcel_of
from wholekept.refusals import LONG
from wholekept.refusals import NO_REFUSAL
from wholekept.state import list_refusal


def answer_write(store, goals):
    """0, then the parcel of the closure of the goals."""
    refusal = list_refusal(store, goals)
    if refusal != NO_REFUSAL:
        return [refusal]
    parcel = parcel_of(copying_order(store, goals), store.held)
    if len(parcel) > PARCEL_LIMIT:
        return [LONG]
    return [0] + parcel
