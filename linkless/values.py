"""Which values are whole numbers and rows, asked without running code of theirs."""


def is_whole(value):
    """Whether the value is a whole number; True and False are none."""
    return type(value) is int


def is_row(value, length):
    """Whether the value is a tuple of this length."""
    return type(value) is tuple and len(value) == length


def is_whole_row(value, length):
    """Whether the value is a tuple of this many whole numbers."""
    return is_row(value, length) and are_whole(value)


def are_whole(value):
    """Whether the value is a tuple of whole numbers, however many."""
    return type(value) is tuple and all([is_whole(part) for part in value])


def is_ascending(row):
    """Whether each of the things in a row is greater than the one before it."""
    return all([row[k] < row[k + 1] for k in range(len(row) - 1)])
