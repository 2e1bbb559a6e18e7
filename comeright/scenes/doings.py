"""What deeds do: each def here takes hands and a deed of the scene that they are of, and changes the hands."""

from comeright.scenes.scenes import ROAD


def do_reckon(hands, deed):
    """The row of the seat is made anew."""
    hands.rows[deed[1]] = hands.reckoned(deed[1])


def do_send(hands, deed):
    """The seat's row comes last on the road; on a full one it is lost."""
    _, seat, other = deed
    at = hands.place(seat, other)
    letters = hands.roads[at][2]
    if len(letters) < ROAD:
        hands.roads[at] = (seat, other, letters + (hands.rows[seat],))


def do_hear(hands, deed):
    """The first letter is taken off, and is what the seat has of its neighbour."""
    _, seat, other = deed
    at = hands.place(other, seat)
    letters = hands.roads[at][2]
    hands.roads[at] = (other, seat, letters[1:])
    hands.copies[hands.place(seat, other)] = (seat, other, letters[0])


def do_lose(hands, deed):
    """The letter is taken off."""
    _, seat, other, number = deed
    at = hands.place(seat, other)
    letters = hands.roads[at][2]
    hands.roads[at] = (seat, other, letters[:number] + letters[number + 1:])


def do_double(hands, deed):
    """The letter stands twice."""
    _, seat, other, number = deed
    at = hands.place(seat, other)
    letters = hands.roads[at][2]
    hands.roads[at] = (seat, other, letters[:number + 1] + letters[number:])


def do_word(hands, deed):
    """The word of the seat is this one."""
    hands.words[deed[1]] = deed[2]


def do_goes(hands, deed):
    """The seat goes by this plan."""
    hands.goes[deed[1]] = deed[2]


def do_put(hands, deed):
    """The seats have a tie, with these copies and letters."""
    _, seat, other, brought = deed
    here, there, on, back = brought
    # No two entries are of the same seats: so sorting asks nothing of what stands in them.
    copies = sorted(hands.copies + [(seat, other, here), (other, seat, there)])
    roads = sorted(hands.roads + [(seat, other, on), (other, seat, back)])
    hands.tie(tuple(sorted(hands.ties + ((seat, other),))), copies, roads)


def without(entries, ahead, back):
    """The copies, or the roads, but those in two places, the first one ahead of the other."""
    return entries[:ahead] + entries[ahead + 1:back] + entries[back + 1:]


def do_cut(hands, deed):
    """The tie of the seats, their copies and roads are gone."""
    _, seat, other = deed
    ahead, back = hands.place(seat, other), hands.place(other, seat)
    ties = tuple([tie for tie in hands.ties if tie != (seat, other)])
    hands.tie(ties, without(hands.copies, ahead, back), without(hands.roads, ahead, back))


def do_strike(hands, deed):
    """The seat has this row; for its neighbours, as they rise, these copies, and these letters to and from them."""
    _, seat, struck = deed
    row, copies, out, into = struck
    hands.rows[seat] = row
    start = hands.starts[seat]
    for at, other in enumerate(hands.near[seat]):
        hands.copies[start + at] = (seat, other, copies[at])
        hands.roads[start + at] = (seat, other, out[at])
        hands.roads[hands.place(other, seat)] = (other, seat, into[at])


DOINGS = {
    "reckon": do_reckon,
    "send": do_send,
    "hear": do_hear,
    "lose": do_lose,
    "double": do_double,
    "word": do_word,
    "goes": do_goes,
    "put": do_put,
    "cut": do_cut,
    "strike": do_strike,
}


def do(hands, deed):
    """Do what surely is a deed of the scene that hands are of."""
    doing = DOINGS[deed[0]]
    doing(hands, deed)
