"""What forms deeds have, and of which scenes they are."""

from comeright.kinds import is_below, is_row
from comeright.plans.plans import wide
from comeright.plans.terms import is_worth
from comeright.scenes.scenes import PLANS, ROAD, ROADS, WEB, entry_of, is_letters, is_levels
from comeright.webs.webs import are_neighbours, beside, is_seat


def fits_reckon(scene, deed):
    """("reckon", s): of any seat."""
    return is_seat(scene[WEB], deed[1])


def fits_send(scene, deed):
    """("send", s, u): of neighbours."""
    return are_neighbours(scene[WEB], deed[1], deed[2])


def fits_hear(scene, deed):
    """("hear", s, u): of neighbours with a letter on the road from u to s."""
    if not are_neighbours(scene[WEB], deed[1], deed[2]):
        return False
    return len(entry_of(scene[ROADS], deed[2], deed[1])) > 0


def fits_lose(scene, deed):
    """("lose", s, u, k): of a letter on the road from s to u."""
    if not are_neighbours(scene[WEB], deed[1], deed[2]):
        return False
    return is_below(deed[3], len(entry_of(scene[ROADS], deed[1], deed[2])))


def fits_double(scene, deed):
    """("double", s, u, k): of a letter on a road that isn't full."""
    return fits_lose(scene, deed) and len(entry_of(scene[ROADS], deed[1], deed[2])) < ROAD


def fits_word(scene, deed):
    """("word", s, w): of any seat and any worth."""
    return is_seat(scene[WEB], deed[1]) and is_worth(deed[2])


def fits_goes(scene, deed):
    """("goes", s, n): of any seat and any plan."""
    return is_seat(scene[WEB], deed[1]) and is_below(deed[2], len(scene[PLANS]))


def are_rising_seats(scene, deed):
    """Whether a deed has two seats, the lesser ahead."""
    web = scene[WEB]
    return is_seat(web, deed[1]) and is_seat(web, deed[2]) and deed[1] < deed[2]


def fits_put(scene, deed):
    """("put", a, b, (here, there, on, back)): of seats without a tie."""
    if not are_rising_seats(scene, deed) or are_neighbours(scene[WEB], deed[1], deed[2]):
        return False
    if not is_row(deed[3], 4, 4):
        return False
    here, there, on, back = deed[3]
    many = wide(scene[PLANS])
    return is_levels(many, here) and is_levels(many, there) and is_letters(many, on) and is_letters(many, back)


def fits_cut(scene, deed):
    """("cut", a, b): of seats with a tie."""
    return are_rising_seats(scene, deed) and are_neighbours(scene[WEB], deed[1], deed[2])


def fits_strike(scene, deed):
    """("strike", s, (row, copies, out, into)): of any seat, a copy and two roads for each neighbour."""
    if not is_seat(scene[WEB], deed[1]) or not is_row(deed[2], 4, 4):
        return False
    row, copies, out, into = deed[2]
    ties = len(beside(scene[WEB], deed[1]))
    if not is_row(copies, ties, ties) or not is_row(out, ties, ties) or not is_row(into, ties, ties):
        return False
    many = wide(scene[PLANS])
    if not is_levels(many, row) or not all([is_levels(many, copy) for copy in copies]):
        return False
    return all([is_letters(many, letters) for letters in out + into])


SIZES = {
    "reckon": 2,
    "send": 3,
    "hear": 3,
    "lose": 4,
    "double": 4,
    "word": 3,
    "goes": 3,
    "put": 4,
    "cut": 3,
    "strike": 3,
}
FITS = {
    "reckon": fits_reckon,
    "send": fits_send,
    "hear": fits_hear,
    "lose": fits_lose,
    "double": fits_double,
    "word": fits_word,
    "goes": fits_goes,
    "put": fits_put,
    "cut": fits_cut,
    "strike": fits_strike,
}


def has_form(thing):
    """Whether it is a row of a deed's word and as many parts as such a deed has."""
    # Only a text is looked up in SIZES: a list there would be an error of Python's own.
    if not is_row(thing, 2, 4) or type(thing[0]) is not str or thing[0] not in SIZES:
        return False
    return len(thing) == SIZES[thing[0]]


def fits(scene, thing):
    """Whether it is a deed of what surely is a scene."""
    if not has_form(thing):
        return False
    fitting = FITS[thing[0]]
    return fitting(scene, thing)
