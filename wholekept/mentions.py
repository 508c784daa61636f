"""The mentions in a text: finding them and renaming them."""

from wholekept.numerals import byte_stands
from wholekept.numerals import number_between
from wholekept.numerals import numeral
from wholekept.numerals import numeral_end

AT = 64
SEMICOLON = 59


def digits_end(text, start):
    """The index behind the digits of the mention whose @ stands at start; start itself if no mention begins there."""
    if text[start] != AT:
        return start
    end = numeral_end(text, start + 1)
    if end > start + 1 and byte_stands(text, end, SEMICOLON):
        return end
    return start


def mention_spans(text):
    """For each mention, from left to right, where its digits begin and the index behind them."""
    spans = []
    index = 0
    while index < len(text):
        end = digits_end(text, index)
        if end > index:
            spans.append((index + 1, end))
        # Behind a mention's digits stands its ; and so the search goes on one byte further either way.
        index = end + 1
    return spans


def mentioned_numbers(text):
    """The numbers that the text mentions, in order of size, each once."""
    return sorted(set([number_between(text, span[0], span[1]) for span in mention_spans(text)]))


def renamed_text(text, names):
    """The text with each mention of a number in names made a mention of what names tells for it."""
    renamed = []
    done = 0
    for span in mention_spans(text):
        number = number_between(text, span[0], span[1])
        if number in names:
            renamed.extend(text[done:span[0]])
            renamed.extend(numeral(names[number]))
            done = span[1]
    renamed.extend(text[done:])
    return renamed
