"""What deeds do: each def here takes a scene and a deed of it, and tells the scene behind it."""

from comeright.kinds import replaced
from comeright.plain.plain import first_worth, next_worth
from comeright.scenes.scenes import COPIES, GOES, PLANS, ROAD, ROADS, ROWS, WEB, WORDS, entry_of
from comeright.webs.webs import beside


def with_entries(entries, fresh):
    """The copies, or the roads, with what a dict has for two neighbours in their entry."""
    return tuple([(first, second, fresh.get((first, second), stood)) for first, second, stood in entries])


def with_letters(scene, seat, other, letters):
    """The scene with these letters on the road from a seat to another one."""
    return replaced(scene, ROADS, with_entries(scene[ROADS], {(seat, other): letters}))


def with_row(scene, seat, row):
    """The scene with this row of a seat."""
    return replaced(scene, ROWS, replaced(scene[ROWS], seat, row))


def with_copy(scene, seat, other, row):
    """The scene with this as what a seat has of another one."""
    return replaced(scene, COPIES, with_entries(scene[COPIES], {(seat, other): row}))


def reckoned(scene, seat):
    """The row that a seat's reckon makes."""
    plan = scene[PLANS][scene[GOES][seat]]
    held = [copy for first, second, copy in scene[COPIES] if first == seat]
    row = [first_worth(plan, scene[WORDS][seat], len(held))]
    for at in range(len(scene[ROWS][seat]) - 1):
        row.append(next_worth(plan, at, row[at], tuple([copy[at] for copy in held])))
    return tuple(row)


def do_reckon(scene, deed):
    """The row of the seat is made anew."""
    return with_row(scene, deed[1], reckoned(scene, deed[1]))


def do_send(scene, deed):
    """The seat's row comes last on the road; on a full one it is lost."""
    _, seat, other = deed
    letters = entry_of(scene[ROADS], seat, other)
    if len(letters) == ROAD:
        return scene
    return with_letters(scene, seat, other, letters + (scene[ROWS][seat],))


def do_hear(scene, deed):
    """The first letter is taken off, and is what the seat has of its neighbour."""
    _, seat, other = deed
    letters = entry_of(scene[ROADS], other, seat)
    return with_copy(with_letters(scene, other, seat, letters[1:]), seat, other, letters[0])


def do_lose(scene, deed):
    """The letter is taken off."""
    _, seat, other, at = deed
    letters = entry_of(scene[ROADS], seat, other)
    return with_letters(scene, seat, other, letters[:at] + letters[at + 1:])


def do_double(scene, deed):
    """The letter stands twice."""
    _, seat, other, at = deed
    letters = entry_of(scene[ROADS], seat, other)
    return with_letters(scene, seat, other, letters[:at + 1] + letters[at:])


def do_word(scene, deed):
    """The word of the seat is this one."""
    _, seat, word = deed
    return replaced(scene, WORDS, replaced(scene[WORDS], seat, word))


def do_goes(scene, deed):
    """The seat goes by this plan."""
    _, seat, number = deed
    return replaced(scene, GOES, replaced(scene[GOES], seat, number))


def do_put(scene, deed):
    """The seats have a tie, with these copies and letters."""
    _, seat, other, brought = deed
    here, there, on, back = brought
    plans, web, words, goes, rows, copies, roads = scene
    ties = tuple(sorted(list(web[1]) + [(seat, other)]))
    copies = tuple(sorted(list(copies) + [(seat, other, here), (other, seat, there)]))
    roads = tuple(sorted(list(roads) + [(seat, other, on), (other, seat, back)]))
    return (plans, (web[0], ties), words, goes, rows, copies, roads)


def without(entries, seat, other):
    """The copies, or the roads, but those of these two, either way."""
    return tuple([entry for entry in entries if (entry[0], entry[1]) not in ((seat, other), (other, seat))])


def do_cut(scene, deed):
    """The tie of the seats, their copies and roads are gone."""
    _, seat, other = deed
    plans, web, words, goes, rows, copies, roads = scene
    ties = tuple([tie for tie in web[1] if tie != (seat, other)])
    return (plans, (web[0], ties), words, goes, rows, without(copies, seat, other), without(roads, seat, other))


def do_strike(scene, deed):
    """The seat has this row; for its neighbours, as they rise, these copies, and these letters to and from them."""
    _, seat, struck = deed
    row, copies, out, into = struck
    fresh_copies = {}
    fresh_roads = {}
    for at, other in enumerate(beside(scene[WEB], seat)):
        fresh_copies[(seat, other)] = copies[at]
        fresh_roads[(seat, other)] = out[at]
        fresh_roads[(other, seat)] = into[at]
    scene = replaced(scene, COPIES, with_entries(scene[COPIES], fresh_copies))
    scene = replaced(scene, ROADS, with_entries(scene[ROADS], fresh_roads))
    return with_row(scene, seat, row)


DOINGS = {
    "reckon": do_reckon,
    "send": do_send,
    "hear": do_hear,
    "lose": do_lose,
    "double": do_double,
    "word": do_word,
    "goes": do_goes,
    "put": do_put,
    "cut": do_cut,
    "strike": do_strike,
}


def after(scene, deed):
    """The scene behind what surely is a deed of it."""
    doing = DOINGS[deed[0]]
    return doing(scene, deed)
