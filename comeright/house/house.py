"""A house: a scene in which deeds are done and taken back, and what is told of it."""

from comeright.errors import NoBack, NoDeed, NoNumber, NoRun, TooLong
from comeright.kinds import is_number
from comeright.looks.looks import look_agrees
from comeright.runs.runs import MOST_DEEDS, fault
from comeright.runs.sure import numbers_from
from comeright.runs.waves import Waves
from comeright.scenes.doings import do
from comeright.scenes.forms import fits
from comeright.scenes.hands import Hands
from comeright.scenes.scenes import need_scene, stands_right
from comeright.webs.webs import need_seat


class House:
    """A first scene, and the deeds done in it that stand."""

    def __init__(self, scene):
        need_scene(scene)
        self._first = scene
        self._right = stands_right(scene)
        self._deeds = []
        self._start()

    def _start(self):
        """Stand at the first scene, with none of the deeds done."""
        self._hands = Hands(self._first)
        self._numbers = numbers_from(self._first, self._right)
        self._waves = Waves(self._first)

    def _done(self, deeds):
        """Do what surely is a run of the scene; refuse what makes the log too long."""
        many = len(self._deeds) + len(deeds)
        if many > MOST_DEEDS:
            raise TooLong(many)
        for deed in deeds:
            do(self._hands, deed)
            self._numbers.goes_on(deed)
            self._waves.goes_on(deed)
            self._deeds.append(deed)

    def do(self, deed):
        """Do a deed of the scene."""
        if not fits(self._hands, deed):
            raise NoDeed("no deed of this scene")
        self._done((deed,))

    def reckon(self, seat):
        """A seat reckons."""
        self.do(("reckon", seat))

    def send(self, seat, other):
        """A seat sends to a neighbour."""
        self.do(("send", seat, other))

    def hear(self, seat, other):
        """A seat hears of a neighbour."""
        self.do(("hear", seat, other))

    def run(self, deeds):
        """Do a run of the scene, whole or not at all: how many deeds."""
        at = fault(self._hands.as_scene(), deeds)
        if at is not None:
            raise NoRun(at)
        self._done(deeds)
        return len(deeds)

    def first(self):
        """The first scene."""
        return self._first

    def scene(self):
        """The scene behind all deeds that stand."""
        return self._hands.as_scene()

    def log(self):
        """The row of deeds that stand."""
        return tuple(self._deeds)

    def told(self, seat):
        """What a seat tells."""
        need_seat(self._hands.web(), seat)
        return self._hands.told(seat)

    def is_right(self):
        """Whether the scene is right."""
        return stands_right(self._hands.as_scene())

    def sure(self):
        """How many of the first levels of each row, each copy and each letter are sure."""
        return self._numbers.told()

    def waves(self):
        """The most waves that the log shows behind its last change."""
        return self._waves.many

    def alarms(self):
        """The rising row of seats whose look doesn't agree."""
        hands = self._hands
        return tuple([seat for seat in range(hands.many) if not look_agrees(hands, seat)])

    def back(self, *, many=1):
        """Take the last deeds back."""
        if not is_number(many):
            raise NoNumber(many)
        if many > len(self._deeds):
            raise NoBack(many)
        left = self._deeds[:len(self._deeds) - many]
        self._deeds = []
        self._start()
        self._done(left)

    def twin(self):
        """A house of the same first scene and log, that goes its own way."""
        told = House(self._first)
        told.run(tuple(self._deeds))
        return told

    def __eq__(self, other):
        return isinstance(other, House) and self._first == other._first and self._deeds == other._deeds

    def __len__(self):
        return len(self._deeds)

    def __str__(self):
        return f"{len(self._deeds)} deeds, {self.waves()} waves, {len(self.alarms())} alarms"

    def __repr__(self):
        return f"House({self._hands.many} seats, {len(self._deeds)} deeds)"
