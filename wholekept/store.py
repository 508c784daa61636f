"""The calls on one store, taken from one list of whole numbers and answered in another."""

from wholekept.keeping import answer_add
from wholekept.keeping import answer_commit
from wholekept.keeping import answer_counts
from wholekept.keeping import answer_drop
from wholekept.keeping import answer_get
from wholekept.keeping import answer_pinned
from wholekept.keeping import answer_room
from wholekept.keeping import answer_stage
from wholekept.leaving import answer_lose
from wholekept.leaving import answer_sweep
from wholekept.leaving import answer_take
from wholekept.looking import answer_above
from wholekept.looking import answer_closure
from wholekept.looking import answer_freed
from wholekept.looking import answer_knot
from wholekept.looking import answer_missing
from wholekept.looking import answer_order
from wholekept.looking import answer_referrers
from wholekept.looking import answer_refs
from wholekept.looking import answer_tops
from wholekept.looking import answer_valid
from wholekept.reading import answer_read
from wholekept.state import Store
from wholekept.writing import answer_write

ROOM = 0
ADD = 1
STAGE = 2
COMMIT = 3
DROP = 4
GET = 5
PINNED = 6
COUNTS = 7
VALID = 8
REFS = 9
REFERRERS = 10
CLOSURE = 11
ABOVE = 12
KNOT = 13
ORDER = 14
TOPS = 15
TAKE = 16
SWEEP = 17
LOSE = 18
FREED = 19
MISSING = 20
WRITE = 21
READ = 22


class UnknownCall(ValueError):
    """Raised for a number that is no call's."""


class Tape:
    """The list of calls and how far it is taken; the list itself stays as it is."""

    def __init__(self, calls):
        self.calls = calls
        self.taken = 0

    def is_ended(self):
        return self.taken >= len(self.calls)

    def take_number(self):
        number = self.calls[self.taken]
        self.taken = self.taken + 1
        return number

    def take_row(self):
        length = self.take_number()
        start = self.taken
        self.taken = start + length
        return self.calls[start:self.taken]


def answer_bare(store, call):
    """The answer of a call with nothing behind its number."""
    if call == COMMIT:
        return answer_commit(store)
    if call == DROP:
        return answer_drop(store)
    if call == COUNTS:
        return answer_counts(store)
    if call == VALID:
        return answer_valid(store)
    return answer_tops(store)


def answer_with_number(store, call, number):
    """The answer of a call with one number."""
    if call == ROOM:
        return answer_room(store, number)
    if call == GET:
        return answer_get(store, number)
    if call == PINNED:
        return answer_pinned(store, number)
    if call == REFS:
        return answer_refs(store, number)
    if call == REFERRERS:
        return answer_referrers(store, number)
    return answer_knot(store, number)


def answer_with_list(store, call, places):
    """The answer of a call with one list of places."""
    if call == CLOSURE:
        return answer_closure(store, places)
    if call == ABOVE:
        return answer_above(store, places)
    if call == ORDER:
        return answer_order(store, places)
    if call == TAKE:
        return answer_take(store, places)
    if call == SWEEP:
        return answer_sweep(store, places)
    if call == LOSE:
        return answer_lose(store, places)
    return answer_write(store, places)


def answer_with_number_and_row(store, call, p, row):
    """The answer of a call with a place and a text or a list."""
    if call == ADD:
        return answer_add(store, p, row)
    if call == STAGE:
        return answer_stage(store, p, row)
    return answer_freed(store, p, row)


def answer_with_two_rows(store, call, first, second):
    """The answer of a call with two lists, or with a parcel and a rule."""
    if call == MISSING:
        return answer_missing(store, first, second)
    return answer_read(store, first, second)


def answer_next(store, tape):
    """Take the next call, with what belongs to it, and answer it."""
    call = tape.take_number()
    if call in (COMMIT, DROP, COUNTS, VALID, TOPS):
        return answer_bare(store, call)
    if call in (ROOM, GET, PINNED, REFS, REFERRERS, KNOT):
        return answer_with_number(store, call, tape.take_number())
    if call in (CLOSURE, ABOVE, ORDER, TAKE, SWEEP, LOSE, WRITE):
        return answer_with_list(store, call, tape.take_row())
    if call in (ADD, STAGE, FREED):
        p = tape.take_number()
        return answer_with_number_and_row(store, call, p, tape.take_row())
    if call in (MISSING, READ):
        first = tape.take_row()
        return answer_with_two_rows(store, call, first, tape.take_row())
    raise UnknownCall(f"call {call}")


def answers(calls):
    """For each call on a new store, in order: how many numbers are answered, and these."""
    store = Store()
    tape = Tape(calls)
    told = []
    while not tape.is_ended():
        answer = answer_next(store, tape)
        told.append(len(answer))
        told.extend(answer)
    return told
