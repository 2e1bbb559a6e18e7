"""Runs: rows of deeds, each of the scene that the ones ahead of it make."""

from comeright.errors import NoNumber, NoRun
from comeright.kinds import is_below
from comeright.scenes.deeds import seats_changed
from comeright.scenes.doings import do
from comeright.scenes.forms import fits
from comeright.scenes.hands import Hands
from comeright.scenes.scenes import need_scene

MOST_DEEDS = 2000


def fault(scene, thing):
    """None of a run of what surely is a scene; of all else the number that NoRun bears."""
    if type(thing) is not tuple:
        return 0
    hands = Hands(scene)
    for at, deed in enumerate(thing[:MOST_DEEDS]):
        if not fits(hands, deed):
            return at
        # What is a deed hangs on no worth of a row: so none need be reckoned.
        if deed[0] != "reckon":
            do(hands, deed)
    if len(thing) > MOST_DEEDS:
        return MOST_DEEDS
    return None


def need_run(scene, deeds):
    """Refuse what is no scene, then what is no run of it."""
    need_scene(scene)
    at = fault(scene, deeds)
    if at is not None:
        raise NoRun(at)


def need_moment(deeds, moment):
    """Refuse what is no moment of what surely is a run."""
    if not is_below(moment, len(deeds) + 1):
        raise NoNumber(moment)


def after_all(scene, deeds):
    """The scene behind what surely is a run of it."""
    hands = Hands(scene)
    for deed in deeds:
        do(hands, deed)
    return hands.as_scene()


def last_change_of(deeds, apart):
    """The moment behind the last deed that changes or strikes a seat that isn't apart; 0 of none."""
    told = 0
    for at, deed in enumerate(deeds):
        for seat in seats_changed(deed):
            if seat not in apart:
                told = at + 1
    return told


def is_run(scene, thing):
    """Whether it is a run of a scene."""
    need_scene(scene)
    return fault(scene, thing) is None


def behind(scene, deeds):
    """The scene behind a run."""
    need_run(scene, deeds)
    return after_all(scene, deeds)


def scene_at(scene, deeds, moment):
    """The scene at a moment of a run."""
    need_run(scene, deeds)
    need_moment(deeds, moment)
    return after_all(scene, deeds[:moment])


def last_change(scene, deeds):
    """The moment behind the last change of a run; 0 of none."""
    need_run(scene, deeds)
    return last_change_of(deeds, ())
