"""What a store holds, and the refusals that many calls look at."""

from wholekept.refusals import ABSENT
from wholekept.refusals import LIMIT
from wholekept.refusals import NO_REFUSAL
from wholekept.refusals import PLACE

LAST_PLACE = 1023
ROOM_LIMIT = 65536
TEXT_LIMIT = 4096
LIST_LIMIT = 64


class Store:
    """What is valid, pinned and staged, and the room.

    held, pins and staged are dicts from places to texts; references is one from each place that has a pin
    to the numbers that its pin mentions: a pin never changes, so these are found but once.
    """

    def __init__(self):
        self.room = ROOM_LIMIT
        self.held = {}
        self.pins = {}
        self.references = {}
        self.staged = {}


def load_of(store):
    """How many bytes the texts at the valid places have in all."""
    return sum([len(store.held[place]) for place in store.held])


def is_place(number):
    """Whether the number is a place."""
    return 0 <= number <= LAST_PLACE


def place_refusal(store, p):
    """Why p can't be asked about as a valid place, or NO_REFUSAL."""
    if not is_place(p):
        return PLACE
    if p not in store.held:
        return ABSENT
    return NO_REFUSAL


def list_refusal(store, places):
    """Why the list that is looked at is refused, or NO_REFUSAL; each reason is looked for in the whole list."""
    if len(places) > LIST_LIMIT:
        return LIMIT
    if not all([is_place(place) for place in places]):
        return PLACE
    if not all([place in store.held for place in places]):
        return ABSENT
    return NO_REFUSAL
