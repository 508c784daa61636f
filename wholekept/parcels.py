"""Parcels: texts that hold records of places and their texts."""

from wholekept.numerals import byte_stands
from wholekept.numerals import number_between
from wholekept.numerals import numeral
from wholekept.numerals import numeral_end

PARCEL_LIMIT = 8192
DIGITS_LIMIT = 9

LINE_END = 10
DOT = 46
COLON = 58


class Record:
    """A place's number and its text, as one record of a parcel tells them, and the index behind that record."""

    def __init__(self, place, text, end):
        self.place = place
        self.text = text
        self.end = end


def field_end(parcel, start):
    """The index of the : behind the number that begins at start, or None if no such number and : stand there."""
    end = numeral_end(parcel, start)
    if end == start or end - start > DIGITS_LIMIT:
        return None
    if not byte_stands(parcel, end, COLON):
        return None
    return end


def record_at(parcel, start):
    """The record that begins at start, or None if none begins there."""
    place_end = field_end(parcel, start)
    if place_end is None:
        return None
    length_end = field_end(parcel, place_end + 1)
    if length_end is None:
        return None
    text_start = length_end + 1
    text_end = text_start + number_between(parcel, place_end + 1, length_end)
    if not byte_stands(parcel, text_end, LINE_END):
        return None
    place = number_between(parcel, start, place_end)
    return Record(place, parcel[text_start:text_end], text_end + 1)


def parcel_records(parcel):
    """The records of the parcel, in their order, or None if the text is no parcel."""
    records = []
    index = 0
    while not byte_stands(parcel, index, DOT):
        record = record_at(parcel, index)
        if record is None:
            return None
        records.append(record)
        index = record.end
    # The dot must be the last byte.
    if index + 1 < len(parcel):
        return None
    return records


def parcel_of(places, texts):
    """The parcel with a record for each of the places, in their order; texts is a dict from places to texts."""
    parcel = []
    for place in places:
        text = texts[place]
        parcel.extend(numeral(place) + [COLON] + numeral(len(text)) + [COLON] + text + [LINE_END])
    parcel.append(DOT)
    return parcel
