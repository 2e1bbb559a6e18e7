"""What forms deeds have, and whether they are of the scene that hands are of."""

from comeright.kinds import is_below, is_row
from comeright.plans.terms import is_worth
from comeright.scenes.scenes import ROAD, are_levels, is_letters


def fits_reckon(hands, deed):
    """("reckon", s): of any seat."""
    return hands.is_seat(deed[1])


def fits_send(hands, deed):
    """("send", s, u): of neighbours."""
    return hands.are_near(deed[1], deed[2])


def fits_hear(hands, deed):
    """("hear", s, u): of neighbours with a letter on the road from u to s."""
    return hands.are_near(deed[1], deed[2]) and hands.letters(deed[2], deed[1]) != ()


def fits_lose(hands, deed):
    """("lose", s, u, k): of a letter on the road from s to u."""
    return hands.are_near(deed[1], deed[2]) and is_below(deed[3], len(hands.letters(deed[1], deed[2])))


def fits_double(hands, deed):
    """("double", s, u, k): of a letter on a road that isn't full."""
    return fits_lose(hands, deed) and len(hands.letters(deed[1], deed[2])) < ROAD


def fits_word(hands, deed):
    """("word", s, w): of any seat and any worth."""
    return hands.is_seat(deed[1]) and is_worth(deed[2])


def fits_goes(hands, deed):
    """("goes", s, n): of any seat and any plan."""
    return hands.is_seat(deed[1]) and is_below(deed[2], len(hands.plans))


def are_rising_seats(hands, deed):
    """Whether a deed has two seats, the lesser ahead."""
    return hands.is_seat(deed[1]) and hands.is_seat(deed[2]) and deed[1] < deed[2]


def fits_put(hands, deed):
    """("put", a, b, (here, there, on, back)): of seats without a tie."""
    if not are_rising_seats(hands, deed) or hands.are_near(deed[1], deed[2]):
        return False
    if not is_row(deed[3], 4, 4):
        return False
    here, there, on, back = deed[3]
    return are_levels(hands.wide, (here, there)) and is_letters(hands.wide, on) and is_letters(hands.wide, back)


def fits_cut(hands, deed):
    """("cut", a, b): of seats with a tie."""
    return are_rising_seats(hands, deed) and hands.are_near(deed[1], deed[2])


def fits_strike(hands, deed):
    """("strike", s, (row, copies, out, into)): of any seat, a copy and two roads for each neighbour."""
    if not hands.is_seat(deed[1]) or not is_row(deed[2], 4, 4):
        return False
    row, copies, out, into = deed[2]
    ties = len(hands.near[deed[1]])
    if not is_row(copies, ties, ties) or not is_row(out, ties, ties) or not is_row(into, ties, ties):
        return False
    if not are_levels(hands.wide, (row,) + copies):
        return False
    return all([is_letters(hands.wide, letters) for letters in out + into])


SIZES = {
    "reckon": 2,
    "send": 3,
    "hear": 3,
    "lose": 4,
    "double": 4,
    "word": 3,
    "goes": 3,
    "put": 4,
    "cut": 3,
    "strike": 3,
}
FITS = {
    "reckon": fits_reckon,
    "send": fits_send,
    "hear": fits_hear,
    "lose": fits_lose,
    "double": fits_double,
    "word": fits_word,
    "goes": fits_goes,
    "put": fits_put,
    "cut": fits_cut,
    "strike": fits_strike,
}


def fits(hands, thing):
    """Whether it is a deed of the scene that hands are of."""
    if type(thing) is not tuple or len(thing) < 2:
        return False
    word = thing[0]
    # Only a text is looked up in SIZES: a list there would be an error of Python's own.
    if type(word) is not str or word not in SIZES or len(thing) != SIZES[word]:
        return False
    fitting = FITS[word]
    return fitting(hands, thing)
