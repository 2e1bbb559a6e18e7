"""Looks: what a seat sees of itself, and of what it has and hears of its neighbours."""

from comeright.scenes.hands import Hands
from comeright.scenes.scenes import WEB, need_scene
from comeright.webs.webs import need_seat


def look_agrees(hands, seat):
    """Whether a seat's row is what its reckon would make, and what it has and is to hear are its neighbours' rows."""
    if hands.reckoned(seat) != hands.rows[seat]:
        return False
    for other, copy in zip(hands.near[seat], hands.held(seat)):
        row = hands.rows[other]
        letters = hands.letters(other, seat)
        if copy != row or letters.count(row) < len(letters):
            return False
    return True


def agrees(scene, seat):
    """Whether a seat's look agrees."""
    need_scene(scene)
    need_seat(scene[WEB], seat)
    return look_agrees(Hands(scene), seat)


def alarms(scene):
    """The rising row of seats whose look doesn't agree."""
    need_scene(scene)
    hands = Hands(scene)
    return tuple([seat for seat in range(hands.many) if not look_agrees(hands, seat)])
