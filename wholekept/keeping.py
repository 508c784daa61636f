"""The calls that bring texts into the store and show them: room to counts."""

from wholekept.admitting import admit
from wholekept.refusals import ABSENT
from wholekept.refusals import FULL
from wholekept.refusals import LIMIT
from wholekept.refusals import LONG
from wholekept.refusals import NO_REFUSAL
from wholekept.refusals import PLACE
from wholekept.refusals import TWICE
from wholekept.state import ROOM_LIMIT
from wholekept.state import TEXT_LIMIT
from wholekept.state import is_place
from wholekept.state import load_of
from wholekept.state import place_refusal

STAGE_LIMIT = 64


def answer_room(store, n):
    """Make n the room."""
    if n < 0 or n > ROOM_LIMIT:
        return [LIMIT]
    if load_of(store) > n:
        return [FULL]
    store.room = n
    return [0]


def text_refusal(p, text):
    """Why the text can't be one for p, whatever the store holds, or NO_REFUSAL."""
    if not is_place(p):
        return PLACE
    if len(text) > TEXT_LIMIT:
        return LONG
    return NO_REFUSAL


def answer_add(store, p, text):
    """Admit the one text for p: 1 if p is new, 0 if it was valid."""
    refusal = text_refusal(p, text)
    if refusal != NO_REFUSAL:
        return [refusal]
    admitted = admit(store, {p: text})
    if admitted[0] != 0:
        return admitted
    return [len(admitted) - 1]


def answer_stage(store, p, text):
    """Stage the text for p: for how many places texts are staged now."""
    refusal = text_refusal(p, text)
    if refusal != NO_REFUSAL:
        return [refusal]
    if p in store.staged:
        return [TWICE]
    if len(store.staged) >= STAGE_LIMIT:
        return [LIMIT]
    store.staged[p] = text
    return [len(store.staged)]


def answer_commit(store):
    """Admit all that is staged: 0, then the new places."""
    admitted = admit(store, store.staged)
    if admitted[0] == 0:
        store.staged = {}
    return admitted


def answer_drop(store):
    """Unstage everything: for how many places texts were staged."""
    dropped = len(store.staged)
    store.staged = {}
    return [dropped]


def answer_get(store, p):
    """0, then the text that is held at p."""
    refusal = place_refusal(store, p)
    if refusal != NO_REFUSAL:
        return [refusal]
    return [0] + store.held[p]


def answer_pinned(store, p):
    """0, then the pin of p, whether p is valid or not."""
    if not is_place(p):
        return [PLACE]
    if p not in store.pins:
        return [ABSENT]
    return [0] + store.pins[p]


def answer_counts(store):
    """How many places are valid, the load, how many places are staged, how many have a pin."""
    return [len(store.held), load_of(store), len(store.staged), len(store.pins)]
