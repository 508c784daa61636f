"""Numbers in decimal, as they stand among the bytes of a text."""

ZERO = 48
NINE = 57

# No place and no number of a rule has more digits than this, so whatever has more is like none of them.
MOST_DIGITS = 19
BEYOND_ALL = 10000000000000000000


def byte_stands(text, index, byte):
    """Whether the text goes as far as the index and has that byte there."""
    return index < len(text) and text[index] == byte


def numeral_end(text, start):
    """The index behind the number in decimal that begins at start; start itself if none begins there."""
    end = start
    while end < len(text) and ZERO <= text[end] <= NINE:
        end = end + 1
    if end > start + 1 and text[start] == ZERO:
        return start
    return end


def number_between(text, start, end):
    """The number whose digits stand from start to end; one with more than MOST_DIGITS is told as BEYOND_ALL.

    Very long numbers are never worked out: Python bounds how many digits it turns into a number.
    """
    if end - start > MOST_DIGITS:
        return BEYOND_ALL
    number = 0
    for digit in text[start:end]:
        number = number * 10 + digit - ZERO
    return number


def numeral(number):
    """The bytes of the number in decimal."""
    return [ord(digit) for digit in str(number)]
