"""Sure levels: how many of the first levels of a row, a copy, a letter are surely right."""

from comeright.errors import NotRight
from comeright.plain.reach import looking_of, reach_of
from comeright.plans.plans import wide
from comeright.runs.marks import brings, marked
from comeright.runs.runs import need_run
from comeright.scenes.deeds import seats_changed
from comeright.scenes.doings import do
from comeright.scenes.hands import Hands
from comeright.scenes.scenes import PLANS, stands_right
from comeright.webs.webs import steps_from


def number_made(looking, many, held):
    """How many of the first of so many levels a reckon makes sure, by the numbers of the copies that it looks at."""
    for at in range(min(held, default=many), many - 1):
        if looking[at]:
            return at + 1
    return many


def caps(far, away, many):
    """For each seat how many of its first levels reach fewer steps than it is away: all where no way leads there."""
    told = []
    for row, steps_off in zip(far, away):
        told.append(many if steps_off is None else len([1 for level in row if level < steps_off]))
    return told


def lessen(hands, most):
    """Make each number of what is a seat's the lesser of itself and of what is told for the seat."""
    hands.rows = [min(number, most[seat]) for seat, number in enumerate(hands.rows)]
    hands.copies = [(seat, other, min(number, most[other])) for seat, other, number in hands.copies]
    hands.roads = [
        (seat, other, tuple([min(number, most[seat]) for number in numbers])) for seat, other, numbers in hands.roads
    ]


class Numbers:
    """Along a run, from this number on, how many first levels are sure: hands have the numbers in place of rows."""

    def __init__(self, scene, start):
        self.hands = Hands(marked(scene, start))
        self.looking = looking_of(scene[PLANS])
        # The reach of all levels, as long as neither the web nor the goes are changed.
        self.far = None

    def goes_on(self, deed):
        """Go on by one deed more of the run."""
        hands = self.hands
        word, seat = deed[0], deed[1]
        if word == "reckon":
            hands.rows[seat] = number_made(self.looking[hands.goes[seat]], hands.wide, hands.held(seat))
            return
        do(hands, brings(deed, 0))
        if word in ("goes", "put", "cut"):
            self.far = None
        if word in ("word", "goes", "put", "cut"):
            if self.far is None:
                self.far = reach_of(self.looking, hands.near, hands.goes)
            lessen(hands, caps(self.far, steps_from(hands.web(), seats_changed(deed)), hands.wide))

    def told(self):
        """The numbers of rows, copies and letters."""
        return (tuple(self.hands.rows), tuple(self.hands.copies), tuple(self.hands.roads))


def numbers_from(scene, right):
    """The numbers at the start of a run: from a right start, or from an unknown one."""
    return Numbers(scene, wide(scene[PLANS]) if right else 0)


def numbers_behind(scene, deeds, right):
    """The numbers behind a run; refuse what is none, then what isn't right, where it should be."""
    need_run(scene, deeds)
    if right and not stands_right(scene):
        raise NotRight("no right scene")
    numbers = numbers_from(scene, right)
    for deed in deeds:
        numbers.goes_on(deed)
    return numbers


def sure(scene, deeds, *, right=False):
    """How many of the first levels of each row, each copy and each letter are sure behind a run."""
    return numbers_behind(scene, deeds, right).told()


def sure_tells(scene, deeds, *, right=False):
    """The rising seats whose told level is sure behind a run."""
    hands = numbers_behind(scene, deeds, right).hands
    rounds = [len(nexts) for _, nexts in hands.plans]
    return tuple([seat for seat, number in enumerate(hands.rows) if number > rounds[hands.goes[seat]]])
