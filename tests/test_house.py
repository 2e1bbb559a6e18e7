"""[34]: houses."""

import unittest

from comeright.errors import NoBack, NoDeed, NoNumber, NoRun, NoScene, NoSeat, TooLong
from comeright.house.house import House
from comeright.looks.looks import alarms
from comeright.runs.even import even_wave
from comeright.runs.runs import behind
from comeright.runs.sure import sure
from comeright.runs.waves import waves
from comeright.scenes.scenes import flat_scene, is_right, loud_scene, right_scene, tells
from tests import model
from tests.samples import LEAST, LINE, ODD, PLANS, rng_of, some_deed, some_parts, some_run, some_scene, some_wavy_run

FLAT = flat_scene(PLANS, LINE, (5, 9, 3, 7), (0, 1, 2, 0))
RIGHT = right_scene((LEAST,), LINE, (5, 9, 3, 7), (0,) * 4)
# No deeds of FLAT: there are no letters, and 0 has no tie with 2.
NO_DEEDS = ODD + (
    ("reckon", 4), ("reckon", True), ("send", 0, 2), ("hear", 0, 1), ("lose", 0, 1, 0), ("word", 0, 997), ("goes", 0, 3), ["reckon", 0],
    ("cut", 1, 0), ("cut", 0, 2), ("put", 0, 1, ((), (), (), ())), ("reckon", 0, 0), ("Reckon", 0),
)


def told_of(house):
    """All that a house tells."""
    return (
        house.first(), house.scene(), house.log(), [house.told(seat) for seat in range(house.scene()[1][0])], house.is_right(),
        house.sure(), house.waves(), house.alarms(), len(house), str(house), repr(house),
    )


def wanted(first, log):
    """The same by the points on runs and scenes."""
    scene = model.all_behind(first, log)
    shown, raised = waves(first, log), alarms(scene)
    numbers = sure(first, log, right=is_right(first))
    return (
        first, scene, tuple(log), list(tells(scene)), is_right(scene), numbers, shown, raised, len(log),
        f"{len(log)} deeds, {shown} waves, {len(raised)} alarms", f"House({first[1][0]} seats, {len(log)} deeds)",
    )


class Houses(unittest.TestCase):
    def told_as_wanted(self, house, first, log):
        told = told_of(house)
        self.assertEqual(told, wanted(first, log))
        self.assertEqual(told_of(house), told)

    def test_by_hand(self):
        house = House(FLAT)
        self.assertEqual((str(house), repr(house), len(house)), ("0 deeds, 0 waves, 4 alarms", "House(4 seats, 0 deeds)", 0))
        self.assertIsNone(house.do(("reckon", 1)))
        self.assertIsNone(house.reckon(0))
        self.assertIsNone(house.send(1, 0))
        self.assertIsNone(house.hear(0, 1))
        self.assertEqual(house.log(), (("reckon", 1), ("reckon", 0), ("send", 1, 0), ("hear", 0, 1)))
        self.assertEqual(house.run((("reckon", 0), ("word", 3, 2))), 2)
        self.assertEqual(house.run(()), 0)
        self.assertEqual(repr(house), "House(4 seats, 6 deeds)")
        self.told_as_wanted(house, FLAT, house.log())
        self.assertIsNone(house.back())
        self.assertEqual(house.log()[-1], ("reckon", 0))
        self.assertIsNone(house.back(many=0))
        self.assertIsNone(house.back(many=5))
        self.told_as_wanted(house, FLAT, ())
        self.assertEqual(str(House(RIGHT)), "0 deeds, 0 waves, 0 alarms")

    def test_ahead_of_deeds(self):
        rng = rng_of(34)
        for number in range(30):
            first = some_scene(rng, 5) if number % 2 else right_scene(*some_parts(rng, 5))
            self.told_as_wanted(House(first), first, ())
        self.assertEqual(House(RIGHT).sure()[0], (4,) * 4)
        self.assertEqual(House(loud_scene(*RIGHT[:4])).sure()[0], (0,) * 4)

    def test_behind_each_deed(self):
        rng = rng_of(341)
        for number in range(16):
            first = some_scene(rng, 4) if number % 2 else right_scene(*some_parts(rng, 4))
            house, world, log = House(first), model.Model(first), []
            for _ in range(30):
                log.append(some_deed(rng, world.scene(), 15))
                world.do(log[-1])
                house.do(log[-1])
                self.told_as_wanted(house, first, tuple(log))

    def test_behind_rows_of_deeds_and_deeds_taken_back(self):
        rng = rng_of(342)
        many = 0
        for number in range(24):
            first = some_scene(rng, 5) if number % 2 else right_scene(*some_parts(rng, 5))
            house, log = House(first), ()
            for _ in range(8):
                now = model.all_behind(first, log)
                if log and rng.random() < 0.4:
                    back = rng.randint(0, len(log))
                    house.back(many=back)
                    log = log[:len(log) - back]
                else:
                    run = (some_run if rng.random() < 0.4 else some_wavy_run)(rng, now, 15, rng.choice((0, 0, 10)))
                    self.assertEqual(house.run(run), len(run))
                    log += run
                self.told_as_wanted(house, first, log)
                many += house.waves() > 0
        self.assertGreater(many, 15)

    def test_even_waves(self):
        house = House(FLAT)
        for k in range(5):
            self.assertEqual(house.waves(), k)
            house.run(even_wave(house.scene()))
        self.assertIs(house.is_right(), True)
        self.assertEqual(house.alarms(), ())
        self.assertEqual(house.sure()[0], (4,) * 4)
        house.do(("word", 0, 1))
        self.assertEqual((house.waves(), house.is_right()), (0, False))

    def test_what_is_told_is_the_askers_own(self):
        house = House(FLAT)
        house.reckon(0)
        for told in (house.log(), house.scene(), house.first(), house.sure(), house.alarms()):
            self.assertIs(type(told), tuple)
        self.assertIs(type(house.told(0)), int)


class Refused(unittest.TestCase):
    def changes_nothing(self, house, error, ask, **borne):
        before = told_of(house)
        with self.assertRaises(error) as told:
            ask()
        self.assertIs(type(told.exception), error)
        for name, thing in borne.items():
            self.assertEqual(getattr(told.exception, name), thing)
        self.assertEqual(told_of(house), before)

    def test_no_scene(self):
        for thing in ODD + (list(FLAT), FLAT[:6], FLAT + ((),), FLAT[:2] + ((5, 9, 3, True),) + FLAT[3:]):
            self.assertRaises(NoScene, House, thing)

    def test_no_deed(self):
        house = House(FLAT)
        for deed in NO_DEEDS:
            self.changes_nothing(house, NoDeed, lambda: house.do(deed))
        for seat in (4, -1, True, None, "0", [], 10 ** 39):
            self.changes_nothing(house, NoDeed, lambda: house.reckon(seat))
            self.changes_nothing(house, NoDeed, lambda: house.send(seat, 1))
            self.changes_nothing(house, NoDeed, lambda: house.send(1, seat))
            self.changes_nothing(house, NoDeed, lambda: house.hear(seat, 1))
            self.changes_nothing(house, NoDeed, lambda: house.hear(1, seat))
        self.changes_nothing(house, NoDeed, lambda: house.send(0, 2))
        self.changes_nothing(house, NoDeed, lambda: house.hear(0, 1))
        house.send(1, 0)
        house.hear(0, 1)
        self.changes_nothing(house, NoDeed, lambda: house.hear(0, 1))

    def test_rows_whole_or_not_at_all(self):
        house = House(FLAT)
        house.run((("reckon", 0), ("send", 0, 1)))
        for deed in NO_DEEDS:
            if deed != ("lose", 0, 1, 0):
                self.changes_nothing(house, NoRun, lambda: house.run((deed,)), at=0)
                self.changes_nothing(house, NoRun, lambda: house.run((("reckon", 1), ("hear", 1, 0), deed)), at=2)
        self.changes_nothing(house, NoRun, lambda: house.run((("hear", 1, 0), ("word", 1, 4), ("hear", 1, 0), ("reckon", 0))), at=2)
        for thing in ODD + ([("reckon", 0)], ("reckon", 0), "reckon"):
            if thing != ():
                self.changes_nothing(house, NoRun, lambda: house.run(thing), at=0)

    def test_too_long(self):
        house = House(RIGHT)
        self.assertEqual(house.run((("reckon", 0), ("reckon", 1)) * 999), 1998)
        self.changes_nothing(house, TooLong, lambda: house.run((("reckon", 0),) * 3), many=2001)
        self.changes_nothing(house, NoRun, lambda: house.run((("reckon", 0), ("reckon", 4), ("reckon", 0))), at=1)
        self.changes_nothing(house, NoRun, lambda: house.run((("reckon", 0),) * 2001), at=2000)
        self.changes_nothing(house, TooLong, lambda: house.run((("reckon", 0),) * 2000), many=3998)
        self.assertEqual(house.run((("word", 0, 4), ("send", 0, 1))), 2)
        for ask in (lambda: house.do(("reckon", 0)), lambda: house.reckon(3), lambda: house.send(1, 2), lambda: house.hear(1, 0)):
            self.changes_nothing(house, TooLong, ask, many=2001)
        for ask in (lambda: house.do(("reckon", 4)), lambda: house.reckon(None), lambda: house.send(0, 2), lambda: house.hear(0, 1)):
            self.changes_nothing(house, NoDeed, ask)
        self.assertEqual(house.run(()), 0)
        self.assertEqual(told_of(house), wanted(RIGHT, house.log()))
        self.changes_nothing(house, NoBack, lambda: house.back(many=2001), many=2001)
        house.back(many=1)
        house.reckon(3)
        self.assertEqual(len(house), 2000)
        house.back(many=2000)
        self.assertEqual(told_of(house), wanted(RIGHT, ()))

    def test_back(self):
        house = House(FLAT)
        house.run((("reckon", 0), ("reckon", 1)))
        for many in (True, False, None, -1, -(10 ** 39), "1", (), [], {}):
            self.changes_nothing(house, NoNumber, lambda: house.back(many=many), number=many)
        for many in (3, 4, 10 ** 39):
            self.changes_nothing(house, NoBack, lambda: house.back(many=many), many=many)
        self.changes_nothing(House(FLAT), NoBack, House(FLAT).back, many=1)

    def test_told(self):
        house = House(FLAT)
        for seat in (4, -1, True, None, "0", [], 10 ** 39):
            self.changes_nothing(house, NoSeat, lambda: house.told(seat), seat=seat)


class Twins(unittest.TestCase):
    def test_go_their_own_way(self):
        rng = rng_of(343)
        for _ in range(10):
            first = some_scene(rng, 4)
            house = House(first)
            house.run(some_run(rng, first, 20, 10))
            twin = house.twin()
            self.assertEqual(told_of(twin), told_of(house))
            self.assertTrue(twin == house)
            before = told_of(house)
            twin.reckon(0)
            self.assertEqual(told_of(house), before)
            self.assertFalse(twin == house)
            house.back(many=3)
            self.assertEqual(len(twin), 21)
            twin.back(many=4)
            self.assertTrue(twin == house)
            self.assertEqual(told_of(twin), told_of(house))

    def test_equality(self):
        house = House(FLAT)
        for thing in ODD + (FLAT, House, "House(4 seats, 0 deeds)"):
            self.assertIs(house == thing, False)
            self.assertIs(house != thing, True)
        self.assertIs(house == House(FLAT), True)
        self.assertIs(house == House(loud_scene(*FLAT[:4])), False)
        # What stands may be alike: it is the first scene and the log that count.
        other = House(FLAT)
        other.reckon(0)
        self.assertIs(house == other, False)
        self.assertIs(House(other.scene()) == other, False)
        self.assertEqual(House(other.scene()).scene(), other.scene())
        house.reckon(0)
        self.assertIs(house == other, True)
        house.reckon(0)
        other.reckon(1)
        self.assertIs(house == other, False)

    def test_a_house_behind_a_house(self):
        rng = rng_of(344)
        first = some_scene(rng, 5)
        run = some_run(rng, first, 30, 10)
        house = House(first)
        house.run(run)
        self.assertEqual(House(house.scene()).scene(), behind(first, run))
