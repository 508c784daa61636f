"""The calls that take validity away: take, sweep and lose. Pins and what is staged stay."""

from wholekept.reaching import above_of
from wholekept.reaching import closure_of
from wholekept.reaching import keys_of
from wholekept.reaching import without
from wholekept.refusals import HELD
from wholekept.refusals import NO_REFUSAL
from wholekept.state import list_refusal


def let_go(store, places):
    """End the validity of the places: 0, then these; they stand in order of size, each once."""
    for place in places:
        store.held.pop(place)
    return [0] + places


def are_needed(store, places):
    """Whether a valid place that isn't among the places mentions one that is."""
    leaving = keys_of(places)
    for place in without(store.held, places):
        if any([reference in leaving for reference in store.references[place]]):
            return True
    return False


def answer_take(store, places):
    """Let go of the places, if nothing that stays needs them."""
    refusal = list_refusal(store, places)
    if refusal != NO_REFUSAL:
        return [refusal]
    if are_needed(store, places):
        return [HELD]
    return let_go(store, sorted(set(places)))


def answer_sweep(store, roots):
    """Let go of all that the roots don't need."""
    refusal = list_refusal(store, roots)
    if refusal != NO_REFUSAL:
        return [refusal]
    return let_go(store, without(sorted(store.held), closure_of(store, roots)))


def answer_lose(store, places):
    """Let go of the places and of all that needs one of them."""
    refusal = list_refusal(store, places)
    if refusal != NO_REFUSAL:
        return [refusal]
    return let_go(store, above_of(store, places))
