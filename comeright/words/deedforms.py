"""What parts deeds have, as they are written: each by one word."""

from comeright.kinds import is_below
from comeright.plans.plans import MOST_PLANS, MOST_ROUNDS
from comeright.plans.terms import is_worth
from comeright.scenes.scenes import ROAD, are_levels, is_letters
from comeright.webs.webs import MOST_SEATS
from comeright.words.figures import number_of, numbers_of, numbers_word, rows_of, rows_word

# Of no neighbours.
NOBODY = "."
# For each deed the kinds of its parts, those of the row in a put or a strike one by one.
PARTS = {
    "reckon": ("seat",),
    "send": ("seat", "other"),
    "hear": ("seat", "other"),
    "lose": ("seat", "other", "place"),
    "double": ("seat", "other", "place"),
    "word": ("seat", "worth"),
    "goes": ("seat", "plan"),
    "put": ("low", "high", "row", "row", "letters", "letters"),
    "cut": ("low", "high"),
    "strike": ("seat", "row", "copies", "roads", "roads"),
}
# How many parts stand ahead of the row in a deed that has one.
WITH_ROW = {"put": 2, "strike": 1}


def is_seat(ahead, part):
    """Whether it is a seat of some web."""
    return is_below(part, MOST_SEATS)


def is_other(ahead, part):
    """Whether it is another seat than the one ahead."""
    return is_below(part, MOST_SEATS) and part != ahead[0]


def is_low(ahead, part):
    """Whether it is a seat that some other one is above."""
    return is_below(part, MOST_SEATS - 1)


def is_high(ahead, part):
    """Whether it is a seat above the one ahead."""
    return is_below(part, MOST_SEATS) and part > ahead[0]


def is_place(ahead, part):
    """Whether it is a place on a road."""
    return is_below(part, ROAD)


def is_a_worth(ahead, part):
    """Whether it is a worth."""
    return is_worth(part)


def is_plan_number(ahead, part):
    """Whether it is the number of a plan."""
    return is_below(part, MOST_PLANS)


def wide_of(ahead):
    """How many worths the rows of a deed have, by the first of them, if it is ahead; else None."""
    rows = [part for part in ahead if type(part) is tuple]
    return len(rows[0]) if len(rows) > 0 else None


def is_a_row(ahead, part):
    """Whether it is a row of worths, as wide as one ahead."""
    wide = wide_of(ahead)
    if wide is not None:
        return are_levels(wide, (part,))
    return type(part) is tuple and 1 <= len(part) <= MOST_ROUNDS + 1 and are_levels(len(part), (part,))


def are_letters(ahead, part):
    """Whether it is a row of letters as wide as the row ahead."""
    return is_letters(wide_of(ahead), part)


def are_copies(ahead, part):
    """Whether it is a row of copies as wide as the row ahead."""
    return type(part) is tuple and len(part) < MOST_SEATS and are_levels(wide_of(ahead), part)


def are_roads(ahead, part):
    """Whether it is a row of as many rows of letters as there are copies ahead."""
    if type(part) is not tuple or len(part) != len(ahead[2]):
        return False
    return not [1 for letters in part if not is_letters(wide_of(ahead), letters)]


FITS = {
    "seat": is_seat,
    "other": is_other,
    "low": is_low,
    "high": is_high,
    "place": is_place,
    "worth": is_a_worth,
    "plan": is_plan_number,
    "row": is_a_row,
    "letters": are_letters,
    "copies": are_copies,
    "roads": are_roads,
}


def row_of(word):
    """The row that a word is; None of what is none."""
    return numbers_of(word)


def letters_of(word):
    """The row of letters that a word is; None of what is none."""
    return rows_of(word)


def copies_of(word):
    """The row of copies that a word is; None of what is none."""
    if word == NOBODY:
        return ()
    told = rows_of(word)
    return None if told == () else told


def roads_of(word):
    """The row of rows of letters that a word is; None of what is none."""
    if word == NOBODY:
        return ()
    told = [rows_of(part) for part in word.split(":")]
    return None if None in told else tuple(told)


def row_word(row):
    """The word of a row."""
    return numbers_word(row)


def letters_word(rows):
    """The word of a row of letters."""
    return rows_word(rows)


def copies_word(rows):
    """The word of a row of copies."""
    return rows_word(rows) if len(rows) > 0 else NOBODY


def roads_word(roads):
    """The word of a row of rows of letters."""
    return ":".join([rows_word(letters) for letters in roads]) if len(roads) > 0 else NOBODY


# Of kinds that are no number: those are read and written as such.
READ = {"row": row_of, "letters": letters_of, "copies": copies_of, "roads": roads_of}
WRITTEN = {"row": row_word, "letters": letters_word, "copies": copies_word, "roads": roads_word}


def part_fits(kind, ahead, part):
    """Whether a part of such a kind may stand behind those ahead."""
    fitting = FITS[kind]
    return fitting(ahead, part)


def part_of(kind, word):
    """The part of such a kind that a word is; None of what is none."""
    if kind not in READ:
        return number_of(word)
    reading = READ[kind]
    return reading(word)


def word_of(kind, part):
    """The word of a part of such a kind."""
    if kind not in WRITTEN:
        return str(part)
    writing = WRITTEN[kind]
    return writing(part)


def flat(thing):
    """The parts of what has the form of a deed, those of its row one by one; None of what has none."""
    if type(thing) is not tuple or len(thing) == 0 or type(thing[0]) is not str or thing[0] not in PARTS:
        return None
    word = thing[0]
    if word not in WITH_ROW:
        return thing[1:]
    ahead = WITH_ROW[word]
    if len(thing) != ahead + 2 or type(thing[-1]) is not tuple:
        return None
    return thing[1:-1] + thing[-1]


def deed_of(word, parts):
    """The deed of a word and its parts."""
    if word not in WITH_ROW:
        return (word,) + tuple(parts)
    ahead = WITH_ROW[word]
    return (word,) + tuple(parts[:ahead]) + (tuple(parts[ahead:]),)


def is_deed_form(thing):
    """Whether it is a deed that some scene has by its form."""
    parts = flat(thing)
    if parts is None:
        return False
    kinds = PARTS[thing[0]]
    if len(parts) != len(kinds):
        return False
    for at, kind in enumerate(kinds):
        if not part_fits(kind, parts[:at], parts[at]):
            return False
    return True
