"""The calls that look along the references: valid to closure."""

from wholekept.refusals import NO_REFUSAL
from wholekept.state import list_refusal
from wholekept.state import place_refusal


def closure_of(store, goals):
    """The closure of the goals, in order of size; the goals are valid places."""
    reached = {}
    waiting = list(goals)
    while len(waiting) > 0:
        place = waiting.pop()
        if place not in reached:
            reached[place] = True
            waiting.extend(store.references[place])
    return sorted(reached)


def answer_valid(store):
    """0, then all valid places."""
    return [0] + sorted(store.held)


def answer_refs(store, p):
    """0, then the references of p."""
    refusal = place_refusal(store, p)
    if refusal != NO_REFUSAL:
        return [refusal]
    return [0] + store.references[p]


def answer_referrers(store, p):
    """0, then the other valid places whose texts mention p."""
    refusal = place_refusal(store, p)
    if refusal != NO_REFUSAL:
        return [refusal]
    return [0] + sorted([place for place in store.held if place != p and p in store.references[place]])


def answer_closure(store, goals):
    """0, then the closure of the goals."""
    refusal = list_refusal(store, goals)
    if refusal != NO_REFUSAL:
        return [refusal]
    return [0] + closure_of(store, goals)
