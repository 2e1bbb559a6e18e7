"""Even waves: all is heard, all reckon, all is sent and heard again."""

from comeright.errors import NoNumber
from comeright.kinds import is_below
from comeright.scenes.hands import Hands
from comeright.scenes.scenes import ROADS, WEB, need_scene, right_rows, stands_right
from comeright.webs.webs import pairs

MOST_EVEN = 100


def even_wave(scene):
    """The run that an even wave of a scene is."""
    need_scene(scene)
    ways = pairs(scene[WEB])
    heard = [("hear", other, seat) for seat, other, letters in scene[ROADS] for _ in letters]
    reckons = [("reckon", seat) for seat in range(scene[WEB][0])]
    sent = [("send", seat, other) for seat, other in ways]
    heard_again = [("hear", other, seat) for seat, other in ways]
    return tuple(heard + reckons + sent + heard_again)


def do_even(hands):
    """Do an even wave: of what is heard on a road only the last letter stands behind it."""
    for seat, other, letters in hands.roads:
        if letters != ():
            hands.copies[hands.place(other, seat)] = (other, seat, letters[-1])
    hands.rows = [hands.reckoned(seat) for seat in range(hands.many)]
    hands.copies = [(seat, other, hands.rows[other]) for seat, other, _ in hands.copies]
    hands.roads = [(seat, other, ()) for seat, other, _ in hands.roads]


def even_behind(scene, many):
    """The scene behind so many even waves."""
    need_scene(scene)
    if not is_below(many, MOST_EVEN + 1):
        raise NoNumber(many)
    hands = Hands(scene)
    for _ in range(many):
        do_even(hands)
    return hands.as_scene()


def need(scene):
    """The fewest even waves behind which a scene is right."""
    need_scene(scene)
    if stands_right(scene):
        return 0
    right = list(right_rows(scene))
    hands = Hands(scene)
    do_even(hands)
    told = 1
    # Behind an even wave all copies are the rows, and there are no letters.
    while hands.rows != right:
        do_even(hands)
        told += 1
    return told
