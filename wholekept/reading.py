"""The call that takes in a parcel: read."""

from wholekept.admitting import admit
from wholekept.mentions import renamed_text
from wholekept.parcels import PARCEL_LIMIT
from wholekept.parcels import parcel_records
from wholekept.refusals import FORM
from wholekept.refusals import LONG
from wholekept.refusals import PLACE
from wholekept.refusals import RULE
from wholekept.refusals import TWICE
from wholekept.rules import is_rule
from wholekept.rules import rule_names
from wholekept.state import TEXT_LIMIT
from wholekept.state import is_place


def admit_texts(store, places, texts):
    """Admit each text for the place beside it: 0, then the new places; or the refusal alone."""
    if not all([is_place(place) for place in places]):
        return [PLACE]
    if len(set(places)) < len(places):
        return [TWICE]
    if any([len(text) > TEXT_LIMIT for text in texts]):
        return [LONG]
    return admit(store, dict(zip(places, texts)))


def answer_read(store, parcel, rule):
    """Admit what the parcel tells, renamed by the rule: 0, then the new places."""
    if len(parcel) > PARCEL_LIMIT:
        return [LONG]
    if not is_rule(rule):
        return [RULE]
    records = parcel_records(parcel)
    if records is None:
        return [FORM]
    names = rule_names(rule)
    places = [names.get(record.place, record.place) for record in records]
    texts = [renamed_text(record.text, names) for record in records]
    return admit_texts(store, places, texts)
