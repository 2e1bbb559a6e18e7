"""Numbers, rows of numbers, and rows of such rows, as one word each."""

NONE = "-"


def number_of(word):
    """The number that a word is, by figures with no 0 ahead of others; None of what is none."""
    if not word.isdigit() or not word.isascii() or len(word) > 1 and word[0] == "0":
        return None
    told = 0
    # Figure by figure: a word may be longer than Python takes at once.
    for figure in word:
        told = 10 * told + int(figure)
    return told


def parts_of(word, sign, telling):
    """The row of what is told of each part of a word, with a sign between; None where one of them is none."""
    if word == NONE:
        return ()
    told = [telling(part) for part in word.split(sign)]
    return None if None in told else tuple(told)


def numbers_of(word):
    """The row of numbers that a word is; None of what is none."""
    return parts_of(word, ",", number_of)


def rows_of(word):
    """The row of rows of numbers that a word is; None of what is none."""
    return parts_of(word, "/", numbers_of)


def numbers_word(numbers):
    """The word of a row of numbers."""
    return ",".join([str(number) for number in numbers]) if len(numbers) > 0 else NONE


def rows_word(rows):
    """The word of a row of rows of numbers."""
    return "/".join([numbers_word(row) for row in rows]) if len(rows) > 0 else NONE
