"""Stamps of a calm run, and grounds: which reckons it hangs on that a level is sure."""

from comeright.errors import NoNumber, NoRun
from comeright.kinds import is_below, is_rising
from comeright.plain.reach import looking_of
from comeright.plans.plans import wide
from comeright.runs.marks import marked
from comeright.runs.runs import need_run
from comeright.scenes.deeds import seats_changed
from comeright.scenes.doings import do
from comeright.scenes.hands import Hands
from comeright.scenes.scenes import GOES, PLANS, WEB
from comeright.webs.webs import need_seat


def need_calm(scene, deeds):
    """Refuse what is no scene, then what is no run of it, or one with a change."""
    need_run(scene, deeds)
    for at, deed in enumerate(deeds):
        if seats_changed(deed) != ():
            raise NoRun(at)


def need_level(scene, level):
    """Refuse what is no number of a level of a scene."""
    if not is_below(level, wide(scene[PLANS])):
        raise NoNumber(level)


def stamped(scene, deeds):
    """(stamps, heard) of a calm run: of each row, and for each reckon (seat, the stamps of its copies then)."""
    hands = Hands(marked(scene, None))
    heard = {}
    for at, deed in enumerate(deeds):
        if deed[0] == "reckon":
            heard[at] = (deed[1], hands.held(deed[1]))
            hands.rows[deed[1]] = at
        else:
            do(hands, deed)
    return (tuple(hands.rows), heard)


def needed(scene, heard, looking, pair):
    """What has to stand in a ground with a pair: the level below it, and those of the copies where it looks."""
    at, level = pair
    if level == 0:
        return []
    seat, held = heard[at]
    below = level - 1
    if not looking[scene[GOES][seat]][below]:
        return [(at, below)]
    return [(at, below)] + [(stamp, below) for stamp in held]


def closed(scene, heard, pair):
    """The least ground that a pair stands in; None where there is none."""
    looking = looking_of(scene[PLANS])
    found = {}
    left = [pair]
    while len(left) > 0:
        at, level = left.pop()
        if at is None:
            return None
        if (at, level) not in found:
            found[(at, level)] = True
            left.extend(needed(scene, heard, looking, (at, level)))
    return tuple(sorted(found))


def are_pairs(scene, heard, thing):
    """Whether it is a rising row of pairs of the number of a reckon and a level."""
    if type(thing) is not tuple:
        return False
    many = wide(scene[PLANS])
    for pair in thing:
        if type(pair) is not tuple or len(pair) != 2 or type(pair[0]) is not int or pair[0] not in heard:
            return False
        if not is_below(pair[1], many):
            return False
    return is_rising(thing)


def stamps(scene, deeds):
    """For each seat the stamp of its row behind a calm run."""
    need_calm(scene, deeds)
    told, _ = stamped(scene, deeds)
    return told


def ground(scene, deeds, seat, level):
    """A ground of a seat's level behind a calm run; None where there is none."""
    need_calm(scene, deeds)
    need_seat(scene[WEB], seat)
    need_level(scene, level)
    told, heard = stamped(scene, deeds)
    return closed(scene, heard, (told[seat], level))


def shows_ground(scene, deeds, seat, level, thing):
    """Whether it is a ground of a seat's level behind a calm run."""
    need_calm(scene, deeds)
    need_seat(scene[WEB], seat)
    need_level(scene, level)
    told, heard = stamped(scene, deeds)
    if not are_pairs(scene, heard, thing):
        return False
    looking = looking_of(scene[PLANS])
    held = {pair: True for pair in thing}
    if (told[seat], level) not in held:
        return False
    for pair in thing:
        for other in needed(scene, heard, looking, pair):
            if other not in held:
                return False
    return True
