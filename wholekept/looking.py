"""The calls that look along the references and change nothing: valid to tops, freed and missing."""

from wholekept.knots import copying_order
from wholekept.knots import knot_of
from wholekept.knots import top_places
from wholekept.reaching import above_of
from wholekept.reaching import closure_of
from wholekept.reaching import without
from wholekept.refusals import NO_REFUSAL
from wholekept.state import list_refusal
from wholekept.state import place_refusal


def answer_valid(store):
    """0, then all valid places."""
    return [0] + sorted(store.held)


def answer_refs(store, p):
    """0, then the references of p."""
    refusal = place_refusal(store, p)
    if refusal != NO_REFUSAL:
        return [refusal]
    return [0] + store.references[p]


def answer_referrers(store, p):
    """0, then the other valid places whose texts mention p."""
    refusal = place_refusal(store, p)
    if refusal != NO_REFUSAL:
        return [refusal]
    return [0] + sorted([place for place in store.held if place != p and p in store.references[place]])


def answer_closure(store, goals):
    """0, then the closure of the goals."""
    refusal = list_refusal(store, goals)
    if refusal != NO_REFUSAL:
        return [refusal]
    return [0] + closure_of(store, goals)


def answer_above(store, goals):
    """0, then all valid places that reach at least one of the goals."""
    refusal = list_refusal(store, goals)
    if refusal != NO_REFUSAL:
        return [refusal]
    return [0] + above_of(store, goals)


def answer_knot(store, p):
    """0, then the knot of p."""
    refusal = place_refusal(store, p)
    if refusal != NO_REFUSAL:
        return [refusal]
    return [0] + knot_of(store, p)


def answer_order(store, goals):
    """0, then the closure of the goals in copying order."""
    refusal = list_refusal(store, goals)
    if refusal != NO_REFUSAL:
        return [refusal]
    return [0] + copying_order(store, goals)


def answer_tops(store):
    """0, then the places of all knots that are mentioned from nowhere outside of them."""
    return [0] + top_places(store)


def answer_freed(store, p, roots):
    """0, then what of the closure of p isn't in the closure of the roots."""
    refusal = place_refusal(store, p)
    if refusal != NO_REFUSAL:
        return [refusal]
    refusal = list_refusal(store, roots)
    if refusal != NO_REFUSAL:
        return [refusal]
    return [0] + without(closure_of(store, [p]), closure_of(store, roots))


def answer_missing(store, goals, there):
    """0, then the closure of the goals in copying order, without the closure of there."""
    refusal = list_refusal(store, goals)
    if refusal != NO_REFUSAL:
        return [refusal]
    refusal = list_refusal(store, there)
    if refusal != NO_REFUSAL:
        return [refusal]
    return [0] + without(copying_order(store, goals), closure_of(store, there))
