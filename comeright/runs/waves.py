"""Waves: stretches of a run in which all that aren't apart reckon, and hear of what others reckoned in them."""

from comeright.kinds import is_rising, is_row
from comeright.runs.marks import brings, marked
from comeright.runs.runs import last_change_of, need_moment, need_run
from comeright.scenes.deeds import seats_changed
from comeright.scenes.doings import do
from comeright.scenes.hands import Hands
from comeright.scenes.scenes import WEB
from comeright.webs.webs import need_seats, pairs

# Of a letter that no reckon of the run stands behind: less than each moment.
NEVER = -1


def wants(web, apart):
    """What a wave has to have: (s, s), a reckon of s; (s, u), that u hears of it. As a dict from each to True."""
    reckons = [(seat, seat) for seat in range(web[0])]
    return {pair: True for pair in reckons + list(pairs(web)) if pair[0] not in apart and pair[1] not in apart}


def gift(hands, at, deed):
    """Do deed at of a run; tell None, or (s, u, number): of wants (s, u) it gives what hangs on the reckon so numbered.

    Hands have in place of each row the number of the reckon that made it: NEVER where it was struck since.
    """
    word, seat = deed[0], deed[1]
    if word == "reckon":
        hands.rows[seat] = at
        return (seat, seat, at)
    if word == "hear":
        do(hands, deed)
        return (deed[2], seat, hands.copies[hands.place(seat, deed[2])][2])
    do(hands, brings(deed, NEVER))
    return None


def gifts(scene, deeds):
    """For each deed its gift."""
    hands = Hands(marked(scene, NEVER))
    return [gift(hands, at, deed) for at, deed in enumerate(deeds)]


class Waves:
    """Along a run how many waves it shows behind its last change, none apart."""

    def __init__(self, scene):
        self.hands = Hands(marked(scene, NEVER))
        self.moment = 0
        self.begin = 0
        self.many = 0
        self.missing = wants(scene[WEB], ())

    def goes_on(self, deed):
        """Go on by one deed more of the run."""
        given = gift(self.hands, self.moment, deed)
        self.moment += 1
        if seats_changed(deed) != ():
            self.many = 0
        else:
            if given is not None and given[2] >= self.begin:
                self.missing.pop((given[0], given[1]), None)
            if len(self.missing) > 0:
                return
            self.many += 1
        self.begin = self.moment
        self.missing = wants(self.hands.web(), ())


def wave_end(given, wanted, begin):
    """The earliest moment by which a stretch from begin has all that is wanted; None where there is none."""
    missing = {pair: True for pair in wanted}
    for at in range(begin, len(given)):
        gift = given[at]
        if gift is not None and gift[2] >= begin:
            missing.pop((gift[0], gift[1]), None)
        if len(missing) == 0:
            return at + 1
    return None


def all_ends(given, wanted, begin):
    """The moments that show the most waves from begin on."""
    told = []
    end = begin
    while end is not None:
        told.append(end)
        end = wave_end(given, wanted, end)
    return tuple(told)


def wants_at(scene, deeds, moment, apart):
    """What a wave has to have that begins at a moment, in the web as it is then."""
    many, ties = scene[WEB]
    ties = list(ties)
    for deed in deeds[:moment]:
        if deed[0] == "put":
            ties.append((deed[1], deed[2]))
        if deed[0] == "cut":
            ties.remove((deed[1], deed[2]))
    return wants((many, tuple(sorted(ties))), apart)


def is_wave(scene, deeds, begin, end, *, apart=()):
    """Whether the stretch from a moment to a later one is a wave apart from some seats."""
    need_run(scene, deeds)
    need_moment(deeds, begin)
    need_moment(deeds, end)
    need_seats(scene[WEB], apart)
    if end <= begin or last_change_of(deeds[begin:end], apart) > 0:
        return False
    given = gifts(scene, deeds[:end])
    return wave_end(given, wants_at(scene, deeds, begin, apart), begin) is not None


def waves(scene, deeds, *, apart=()):
    """The most waves that a run shows behind the last change of others."""
    return len(wave_ends(scene, deeds, apart=apart)) - 1


def wave_ends(scene, deeds, *, apart=()):
    """The row of moments that shows the most waves: where they begin, and the earliest end of each."""
    need_run(scene, deeds)
    need_seats(scene[WEB], apart)
    begin = last_change_of(deeds, apart)
    return all_ends(gifts(scene, deeds), wants_at(scene, deeds, begin, apart), begin)


def are_moments(deeds, thing, begin):
    """Whether it is a rising row of one moment or more, none ahead of begin."""
    if not is_row(thing, 1, len(deeds) + 1) or not all([type(moment) is int for moment in thing]):
        return False
    return is_rising(thing) and begin <= thing[0] and thing[-1] <= len(deeds)


def shows_waves(scene, deeds, thing, *, apart=()):
    """Whether it shows some waves of a run behind the last change of others, however many."""
    need_run(scene, deeds)
    need_seats(scene[WEB], apart)
    begin = last_change_of(deeds, apart)
    if not are_moments(deeds, thing, begin):
        return False
    given = gifts(scene, deeds)
    wanted = wants_at(scene, deeds, begin, apart)
    for moment, later in zip(thing, thing[1:]):
        # A stretch is a wave just where the earliest end from its begin on is no later than its own.
        end = wave_end(given, wanted, moment)
        if end is None or end > later:
            return False
    return True
