"""Deeds of a scene: which there are, which are changes, what is behind them."""

from comeright.errors import NoDeed
from comeright.scenes.doings import do
from comeright.scenes.forms import fits
from comeright.scenes.hands import Hands
from comeright.scenes.scenes import need_scene

CHANGES_ONE = ("word", "goes", "strike")
CHANGES_TWO = ("put", "cut")


def need_deed(scene, deed):
    """The hands of a scene, for a deed of it; refuse what is no scene, then what is no deed of it."""
    need_scene(scene)
    hands = Hands(scene)
    if not fits(hands, deed):
        raise NoDeed("no deed of this scene")
    return hands


def seats_changed(deed):
    """The rising seats changed or struck by what surely is a deed: none just where it is no change."""
    if deed[0] in CHANGES_ONE:
        return (deed[1],)
    if deed[0] in CHANGES_TWO:
        return (deed[1], deed[2])
    return ()


def is_deed(scene, thing):
    """Whether it is a deed of a scene."""
    need_scene(scene)
    return fits(Hands(scene), thing)


def is_change(scene, deed):
    """Whether a deed of a scene is a change."""
    need_deed(scene, deed)
    return seats_changed(deed) != ()


def changed(scene, deed):
    """The rising seats that a deed of a scene changes or strikes."""
    need_deed(scene, deed)
    return seats_changed(deed)


def done(scene, deed):
    """The scene behind a deed of it."""
    hands = need_deed(scene, deed)
    do(hands, deed)
    return hands.as_scene()
