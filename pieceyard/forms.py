"""The forms that values have in common, whatever they stand for."""


def is_within(value, least, greatest):
    # Python counts True and False as numbers; here they are none.
    if isinstance(value, bool) or not isinstance(value, int):
        return False
    return least <= value <= greatest


def is_tuple(value, length):
    return isinstance(value, tuple) and len(value) == length


def is_rising(row):
    # Strictly, so that nothing stands twice in what rises.
    return all([left < right for left, right in zip(row, row[1:])])
