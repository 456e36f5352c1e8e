"""The forms that values have in common, whatever they stand for."""

from pieceyard.errors import TooMany


def is_number(value):
    # Python counts True and False as numbers; here they are none.
    return isinstance(value, int) and not isinstance(value, bool)


def is_within(value, least, greatest):
    return is_number(value) and least <= value <= greatest


def is_tuple(value, length):
    return isinstance(value, tuple) and len(value) == length


def is_rising(row):
    # Strictly, so that nothing stands twice in what rises.
    return all([left < right for left, right in zip(row, row[1:])])


def check_many(many, least, greatest):
    # The number itself stays out of the words: Python refuses to write out one that is far off.
    if not is_within(many, least, greatest):
        raise TooMany(f"the number of moves is none from {least} to {greatest}")
