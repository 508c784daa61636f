"""Admitting a batch: a dict from places to the texts that are to be held there."""

from wholekept.mentions import mentioned_numbers
from wholekept.refusals import BROKEN
from wholekept.refusals import CLASH
from wholekept.refusals import FULL
from wholekept.refusals import NO_REFUSAL
from wholekept.state import load_of


def clashes(store, batch):
    """Whether a place of the batch has a pin other than the batch's text for it."""
    return any([place in store.pins and store.pins[place] != batch[place] for place in batch])


def is_broken(store, batch, mentioned):
    """Whether a text of the batch mentions what is neither a valid place nor a place of the batch."""
    for place in batch:
        if not all([number in store.held or number in batch for number in mentioned[place]]):
            return True
    return False


def new_places(store, batch):
    """The places of the batch that aren't valid, in order of size."""
    return sorted([place for place in batch if place not in store.held])


def batch_refusal(store, batch, mentioned):
    """Why the batch isn't admitted, or NO_REFUSAL; each reason is looked for in the whole batch."""
    if clashes(store, batch):
        return CLASH
    if is_broken(store, batch, mentioned):
        return BROKEN
    if load_of(store) + sum([len(batch[place]) for place in new_places(store, batch)]) > store.room:
        return FULL
    return NO_REFUSAL


def admit(store, batch):
    """Admit the batch: 0, then the new places; or the refusal alone."""
    mentioned = {}
    for place in batch:
        mentioned[place] = mentioned_numbers(batch[place])
    refusal = batch_refusal(store, batch, mentioned)
    if refusal != NO_REFUSAL:
        return [refusal]
    new = new_places(store, batch)
    for place in new:
        store.held[place] = batch[place]
        store.pins[place] = batch[place]
        store.references[place] = mentioned[place]
    return [0] + new
