"""What the tests share: calls written by name, and answers taken apart call by call."""

from wholekept.store import answers

PLACE = [-1]
LONG = [-2]
TWICE = [-3]
CLASH = [-4]
BROKEN = [-5]
FULL = [-6]
ABSENT = [-7]
HELD = [-8]
LIMIT = [-9]
FORM = [-10]
RULE = [-11]

FAR = 10 ** 18
NO_PLACES = (-1, 1024, -FAR, FAR)


def text_bytes(text):
    return list(text.encode("latin-1")) if isinstance(text, str) else list(text)


def row(numbers):
    return [len(numbers)] + list(numbers)


def room(n):
    return [0, n]


def add(p, text):
    return [1, p] + row(text_bytes(text))


def stage(p, text):
    return [2, p] + row(text_bytes(text))


COMMIT = [3]
DROP = [4]


def get(p):
    return [5, p]


def pinned(p):
    return [6, p]


COUNTS = [7]
VALID = [8]


def refs(p):
    return [9, p]


def referrers(p):
    return [10, p]


def closure(*goals):
    return [11] + row(goals)


def above(*goals):
    return [12] + row(goals)


def knot(p):
    return [13, p]


def order(*goals):
    return [14] + row(goals)


TOPS = [15]


def take(*places):
    return [16] + row(places)


def sweep(*roots):
    return [17] + row(roots)


def lose(*places):
    return [18] + row(places)


def freed(p, *roots):
    return [19, p] + row(roots)


def missing(goals, there):
    return [20] + row(goals) + row(there)


def write(*goals):
    return [21] + row(goals)


def read(parcel, rule=()):
    return [22] + row(text_bytes(parcel)) + row(rule)


def record(place, text):
    return text_bytes(f"{place}:{len(text)}:") + text_bytes(text) + [10]


def parcel_of(*pairs):
    parcel = []
    for place, text in pairs:
        parcel += record(place, text)
    return parcel + [46]


def reads_of(pairs):
    """Calls of read that bring these texts in their order, each parcel with as many of them as it has room for."""
    parcels = [[]]
    for place, text in pairs:
        if len(parcels[-1]) + len(record(place, text)) + 1 > 8192:
            parcels.append([])
        parcels[-1] += record(place, text)
    return [read(parcel + [46]) for parcel in parcels]


def chain_of(places):
    """Texts for the places, each of which mentions the one before it."""
    return [(p, f"@{places[k - 1]};" if k else "") for k, p in enumerate(places)]


def told(text):
    """The answer 0 with the bytes of a text behind it."""
    return [0] + text_bytes(text)


def split_answers(numbers):
    found = []
    at = 0
    while at < len(numbers):
        end = at + 1 + numbers[at]
        if end > len(numbers):
            raise AssertionError("the last answer is shorter than its count says")
        found.append(numbers[at + 1:end])
        at = end
    return found


def play(*calls):
    """The answers of these calls on one new store, a list for each call."""
    line = [number for call in calls for number in call]
    if len(line) > 16000 or len(calls) > 120:
        raise AssertionError("more is handed in than the document allows")
    found = split_answers(answers(line))
    if len(found) != len(calls):
        raise AssertionError(f"{len(calls)} calls, {len(found)} answers")
    return found


def last(*calls):
    return play(*calls)[-1]


def probes(places):
    """Calls that show what a store holds: what is valid and pinned there, and what is staged."""
    calls = [COUNTS, VALID, TOPS]
    for place in places:
        calls += [get(place), pinned(place)]
        calls += [refs(place), referrers(place)]
    # Staging is refused where something is staged, and the commit shows what it was.
    calls += [stage(place, "x") for place in places]
    return calls + [COMMIT, COUNTS, VALID] + [get(place) for place in places]


def assert_refused(case, before, call, refusal, places):
    """The call is refused so after the calls before it, and leaves everything as it was."""
    shown = probes(places)
    without = play(*before, *shown)[len(before):]
    answered = play(*before, call, *shown)[len(before):]
    case.assertEqual(answered[0], refusal)
    case.assertEqual(answered[1:], without)


def assert_list_is_looked_at(case, before, call, present, absent):
    """Where a list is handed to the call: LIMIT, PLACE and ABSENT in this order, each for the whole list."""
    shown = (present, absent)
    case.assertGreaterEqual(last(*before, call(*[present] * 64))[0], 0)
    assert_refused(case, before, call(*[present] * 65), LIMIT, shown)
    assert_refused(case, before, call(*[absent] * 64, FAR), LIMIT, shown)
    assert_refused(case, before, call(*[absent] * 1000), LIMIT, shown)
    for p in NO_PLACES:
        assert_refused(case, before, call(present, p), PLACE, shown)
        assert_refused(case, before, call(absent, present, p), PLACE, shown)
        assert_refused(case, before, call(p, absent), PLACE, shown)
    assert_refused(case, before, call(present, absent), ABSENT, shown)
    assert_refused(case, before, call(absent, present), ABSENT, shown)
    assert_refused(case, before, call(*[present] * 63, absent), ABSENT, shown)
