"""Piles: two scenes of one web, the words of the upper one what the lower one's seats tell."""

from comeright.errors import NoPile, NoRun
from comeright.plain.plain import told_levels
from comeright.runs.runs import MOST_DEEDS
from comeright.scenes.doings import do
from comeright.scenes.forms import fits
from comeright.scenes.hands import Hands
from comeright.scenes.scenes import GOES, PLANS, ROWS, WEB, WORDS, is_scene, need_scene, stands_right

NOT_LOWER = ("put", "cut")
NOT_UPPER = ("word", "put", "cut")
# What may make a seat tell otherwise.
TELLING = ("reckon", "goes", "strike")


def what_is_told(scene):
    """What each seat of what surely is a scene tells."""
    return told_levels(scene[PLANS], scene[GOES], scene[ROWS])


def need_pile(pile):
    """Refuse what is no pile."""
    if not is_pile(pile):
        raise NoPile("no pile")


def fits_pile(lower, upper, thing):
    """Whether it is a deed of the pile that these hands are of."""
    if type(thing) is not tuple or len(thing) != 2:
        return False
    which, deed = thing
    if which == "lower":
        return fits(lower, deed) and deed[0] not in NOT_LOWER
    return which == "upper" and fits(upper, deed) and deed[0] not in NOT_UPPER


def do_below(lower, upper, deed):
    """Do a deed of the lower hands; tell the change of the upper ones that it makes, in a row of one or none."""
    do(lower, deed)
    seat = deed[1]
    if deed[0] not in TELLING or lower.told(seat) == upper.words[seat]:
        return []
    change = ("word", seat, lower.told(seat))
    do(upper, change)
    return [change]


def played(pile, deeds):
    """(lower hands, upper hands, lower deeds, upper deeds) behind deeds of a pile; refuse what are none."""
    if type(deeds) is not tuple:
        raise NoRun(0)
    lower, upper = Hands(pile[0]), Hands(pile[1])
    below, above = [], []
    for at, thing in enumerate(deeds[:MOST_DEEDS]):
        if not fits_pile(lower, upper, thing):
            raise NoRun(at)
        which, deed = thing
        if which == "lower":
            below.append(deed)
            above.extend(do_below(lower, upper, deed))
        else:
            above.append(deed)
            do(upper, deed)
    if len(deeds) > MOST_DEEDS:
        raise NoRun(MOST_DEEDS)
    return (lower, upper, below, above)


def piled(lower, upper):
    """The pile of two scenes of one web, the upper one with what the lower one's seats tell for words."""
    need_scene(lower)
    need_scene(upper)
    if lower[WEB] != upper[WEB]:
        raise NoPile("two scenes of unlike webs")
    return (lower, upper[:WORDS] + (what_is_told(lower),) + upper[WORDS + 1:])


def is_pile(thing):
    """Whether it is a pile."""
    if type(thing) is not tuple or len(thing) != 2:
        return False
    lower, upper = thing
    if not is_scene(lower) or not is_scene(upper) or lower[WEB] != upper[WEB]:
        return False
    return upper[WORDS] == what_is_told(lower)


def is_pile_deed(pile, thing):
    """Whether it is a deed of a pile."""
    need_pile(pile)
    lower, upper = pile
    return fits_pile(Hands(lower), Hands(upper), thing)


def pile_behind(pile, deeds):
    """The pile behind a row of deeds of it."""
    need_pile(pile)
    lower, upper, _, _ = played(pile, deeds)
    return (lower.as_scene(), upper.as_scene())


def parted(pile, deeds):
    """(lower deeds, upper deeds): the two runs that a row of deeds of a pile is."""
    need_pile(pile)
    _, _, below, above = played(pile, deeds)
    return (tuple(below), tuple(above))


def is_pile_right(pile):
    """Whether both scenes of a pile are right."""
    need_pile(pile)
    lower, upper = pile
    return stands_right(lower) and stands_right(upper)
