"""Plain kinds of things: whole numbers, rows, rising rows. All of these take anything."""


def is_below(thing, top):
    """Whether it is a whole number from 0 on, less than top."""
    return type(thing) is int and 0 <= thing < top


def is_number(thing):
    """Whether it is a whole number from 0 on."""
    return type(thing) is int and thing >= 0


def is_row(thing, least, most):
    """Whether it is a row of least to most parts."""
    return type(thing) is tuple and least <= len(thing) <= most


def is_rising(row):
    """Whether each part of a row of like things is less than the one behind it."""
    return all([row[at] < row[at + 1] for at in range(len(row) - 1)])
