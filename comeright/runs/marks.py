"""Marks of letters: they go along a run as the letters do that they are of."""

from comeright.scenes.scenes import ROAD, ROADS


def first_marks(scene, mark):
    """A dict from each road's (from, to) to a list of marks: this one for each letter that stands there."""
    return {(seat, other): [mark] * len(letters) for seat, other, letters in scene[ROADS]}


def strike_marks(marks, deed, brought):
    """Mark what a strike puts on the roads of a seat."""
    _, seat, struck = deed
    _, _, out, into = struck
    near = sorted([second for first, second in marks if first == seat])
    for at, other in enumerate(near):
        marks[(seat, other)] = [brought] * len(out[at])
        marks[(other, seat)] = [brought] * len(into[at])


def tie_marks(marks, deed, brought):
    """Mark what a put brings, and leave out what a cut takes."""
    seat, other = deed[1], deed[2]
    if deed[0] == "cut":
        del marks[(seat, other)]
        del marks[(other, seat)]
        return
    _, _, on, back = deed[3]
    marks[(seat, other)] = [brought] * len(on)
    marks[(other, seat)] = [brought] * len(back)


def letter_marks(marks, deed, sent):
    """Move the marks of one road as a send, hear, lose or double does its letters; tell the one heard, else None."""
    word, seat, other = deed[0], deed[1], deed[2]
    if word == "hear":
        return marks[(other, seat)].pop(0)
    row = marks[(seat, other)]
    if word == "send" and len(row) < ROAD:
        row.append(sent)
    if word == "lose":
        row.pop(deed[3])
    if word == "double":
        row.insert(deed[3], row[deed[3]])
    return None


def move_marks(marks, deed, sent, brought):
    """Move marks as a deed does letters: a letter sent gets the one, what a change brings the other.

    It tells the mark of the letter that the deed hears, else None.
    """
    if deed[0] in ("send", "hear", "lose", "double"):
        return letter_marks(marks, deed, sent)
    if deed[0] in ("put", "cut"):
        tie_marks(marks, deed, brought)
    if deed[0] == "strike":
        strike_marks(marks, deed, brought)
    return None
