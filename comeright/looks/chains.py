"""Chains: from each wrong level to one that can't be founded on what its seat has."""

from comeright.errors import NoNumber
from comeright.kinds import is_below, is_row
from comeright.plans.plans import wide
from comeright.plans.terms import looks, worth_of
from comeright.scenes.hands import Hands
from comeright.scenes.scenes import PLANS, ROWS, WEB, need_scene, right_rows
from comeright.webs.webs import need_seat


def need_place(scene, seat, level):
    """Refuse what is no scene, then what is no seat of it, then what is no number of a level."""
    need_scene(scene)
    need_seat(scene[WEB], seat)
    if not is_below(level, wide(scene[PLANS])):
        raise NoNumber(level)


def wrong_places(scene):
    """A dict from each (seat, level) that isn't the plain run's to True, as they rise."""
    told = {}
    for seat, (row, right) in enumerate(zip(scene[ROWS], right_rows(scene))):
        for level, (worth, wanted) in enumerate(zip(row, right)):
            if worth != wanted:
                told[(seat, level)] = True
    return told


def does_level_look(hands, seat, level):
    """Whether a seat's level is made by a next that looks."""
    _, nexts = hands.plans[hands.goes[seat]]
    return 1 <= level <= len(nexts) and looks(nexts[level - 1])


def level_made(hands, seat, level):
    """What the seat's reckon would make of its word, or of its row's level below this one and its copies."""
    first, nexts = hands.plans[hands.goes[seat]]
    held = hands.held(seat)
    if level == 0:
        return worth_of(first, hands.words[seat], held)
    if level > len(nexts):
        return 0
    return worth_of(nexts[level - 1], hands.rows[seat][level - 1], [copy[level - 1] for copy in held])


def unfounded(hands, seat, level):
    """Whether a seat's level is unfounded."""
    if hands.rows[seat][level] != level_made(hands, seat, level):
        return True
    if not does_level_look(hands, seat, level):
        return False
    seen = [copy[level - 1] for copy in hands.held(seat)]
    return seen != [hands.rows[other][level - 1] for other in hands.near[seat]]


def places_below(hands, seat, level):
    """Where a chain may go on from a level that isn't unfounded."""
    told = [(seat, level - 1)]
    if does_level_look(hands, seat, level):
        told.extend([(other, level - 1) for other in hands.near[seat]])
    return told


def chain_from(hands, wrong, seat, level):
    """A chain from a wrong level: the first wrong one below each that isn't unfounded."""
    told = [(seat, level)]
    while not unfounded(hands, seat, level):
        below = [place for place in places_below(hands, seat, level) if place in wrong]
        seat, level = below[0]
        told.append((seat, level))
    return tuple(told)


def are_places(hands, thing):
    """Whether it is a row of one (seat, level) or more."""
    if not is_row(thing, 1, hands.wide):
        return False
    return not [1 for place in thing if not is_place(hands, place)]


def is_place(hands, thing):
    """Whether it is a (seat, level)."""
    return is_row(thing, 2, 2) and hands.is_seat(thing[0]) and is_below(thing[1], hands.wide)


def is_chain(hands, wrong, thing):
    """Whether a row of places is a chain from its first one."""
    for place, later in zip(thing, thing[1:]):
        seat, level = place
        if unfounded(hands, seat, level) or later not in places_below(hands, seat, level):
            return False
    seat, level = thing[-1]
    return not [1 for place in thing if place not in wrong] and unfounded(hands, seat, level)


def wrong_levels(scene):
    """The rising row of (seat, level) of rows that aren't the plain run's."""
    need_scene(scene)
    return tuple(wrong_places(scene))


def is_unfounded(scene, seat, level):
    """Whether a level of a seat's row is unfounded."""
    need_place(scene, seat, level)
    return unfounded(Hands(scene), seat, level)


def chain(scene, seat, level):
    """A chain from a wrong level; None of one that isn't wrong."""
    need_place(scene, seat, level)
    wrong = wrong_places(scene)
    if (seat, level) not in wrong:
        return None
    return chain_from(Hands(scene), wrong, seat, level)


def shows_chain(scene, seat, level, thing):
    """Whether it is a chain from a wrong level; of one that isn't wrong, whether it is None."""
    need_place(scene, seat, level)
    wrong = wrong_places(scene)
    if (seat, level) not in wrong:
        return thing is None
    hands = Hands(scene)
    return are_places(hands, thing) and thing[0] == (seat, level) and is_chain(hands, wrong, thing)
