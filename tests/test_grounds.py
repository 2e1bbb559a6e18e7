"""[15]: stamps, and grounds of sure levels."""

import unittest

from comeright.errors import NoNumber, NoRun, NoScene, NoSeat
from comeright.runs.grounds import ground, shows_ground, stamps
from comeright.runs.sure import sure
from comeright.scenes.scenes import flat_scene, right_scene
from tests import model
from tests.samples import LEAST, LINE, ODD, STILL, WALKS, rng_of, some_run, some_scene, some_wavy_run

TWO = flat_scene((LEAST,), (2, ((0, 1),)), (5, 9), (0, 0))
ROW = TWO[4][0]
RUN = (
    ("reckon", 0), ("send", 0, 1), ("hear", 1, 0), ("reckon", 1), ("send", 1, 0), ("hear", 0, 1), ("reckon", 0), ("reckon", 0),
)
# Of seat 0 level 2 behind it: its row was made by deed 7, its copy by 3, the copy of that by 0.
GROUND = ((0, 0), (3, 0), (3, 1), (7, 0), (7, 1), (7, 2))


class Stamps(unittest.TestCase):
    def test_of_rows(self):
        self.assertEqual(stamps(TWO, ()), (None, None))
        told = [stamps(TWO, RUN[:k]) for k in range(9)]
        self.assertEqual(told, [(None, None)] + [(0, None)] * 3 + [(0, 3)] * 3 + [(6, 3), (7, 3)])

    def test_other_deeds_make_no_row(self):
        deeds = (("reckon", 1), ("send", 1, 0), ("double", 1, 0, 0), ("lose", 1, 0, 1), ("hear", 0, 1))
        self.assertEqual(stamps(TWO, deeds), (None, 0))

    def test_against_the_model(self):
        rng = rng_of(15)
        for _ in range(30):
            scene = some_scene(rng, 4)
            deeds = some_run(rng, scene, 40, 0)
            rows = model.stamps_at(scene, deeds)[-1][0]
            self.assertEqual(stamps(scene, deeds), tuple(rows[s] for s in sorted(rows)))


class Grounds(unittest.TestCase):
    def test_just_what_is_hung_on(self):
        self.assertEqual(ground(TWO, RUN, 0, 2), GROUND)
        self.assertEqual(ground(TWO, RUN, 0, 0), ((7, 0),))
        self.assertEqual(ground(TWO, RUN, 1, 1), ((0, 0), (3, 0), (3, 1)))
        self.assertIsNone(ground(TWO, RUN, 0, 3))
        self.assertIsNone(ground(TWO, RUN, 1, 2))
        self.assertIsNone(ground(TWO, (), 0, 0))
        self.assertEqual(sure(TWO, RUN)[0], (3, 2))

    def test_levels_that_a_plan_lacks(self):
        scene = flat_scene((LEAST, STILL), (2, ((0, 1),)), (5, 9), (0, 1))
        self.assertEqual(ground(scene, (("reckon", 1),), 1, 3), ((0, 0), (0, 1), (0, 2), (0, 3)))
        deeds = (("reckon", 1), ("send", 1, 0), ("hear", 0, 1), ("reckon", 0))
        self.assertEqual(len(ground(scene, deeds, 0, 3)), 7)

    def test_a_seat_without_neighbours(self):
        scene = flat_scene((WALKS,), (1, ()), (5,), (0,))
        self.assertEqual(ground(scene, (("reckon", 0),) * 3, 0, 2), ((2, 0), (2, 1), (2, 2)))

    def test_copies_as_they_were_then(self):
        # What seat 0 hears behind its reckon is no ground of that reckon.
        deeds = (("reckon", 1), ("send", 1, 0), ("reckon", 0), ("hear", 0, 1))
        self.assertIsNone(ground(TWO, deeds, 0, 1))
        self.assertEqual(ground(TWO, deeds + (("reckon", 0),), 0, 1), ((0, 0), (4, 0), (4, 1)))
        later = deeds + (("reckon", 0), ("reckon", 1), ("send", 1, 0), ("hear", 0, 1))
        self.assertEqual(ground(TWO, later, 0, 1), ((0, 0), (4, 0), (4, 1)))

    def test_letters_of_the_start_have_no_stamp(self):
        scene = TWO[:6] + (((0, 1, ()), (1, 0, (ROW,))),)
        deeds = (("reckon", 1), ("send", 1, 0), ("hear", 0, 1), ("reckon", 0))
        self.assertIsNone(ground(scene, deeds, 0, 1))
        self.assertEqual(ground(scene, deeds + (("hear", 0, 1), ("reckon", 0)), 0, 1), ((0, 0), (5, 0), (5, 1)))

    def test_just_where_the_level_is_sure(self):
        rng = rng_of(151)
        there = 0
        for number in range(40):
            scene = some_scene(rng, 4)
            deeds = (some_run if number % 2 else some_wavy_run)(rng, scene, 50, 0)
            numbers = sure(scene, deeds)[0]
            for s, k in enumerate(numbers):
                for i in range(len(scene[4][0])):
                    told = ground(scene, deeds, s, i)
                    self.assertEqual(told is not None, i < k)
                    self.assertEqual(told, ground(scene, deeds, s, i))
                    if told is None:
                        for thing in (None, (), ((0, 0),), tuple((k, 0) for k, d in enumerate(deeds) if d[0] == "reckon")):
                            self.assertIs(shows_ground(scene, deeds, s, i, thing), False)
                        continue
                    there += 1
                    self.assertEqual(told, tuple(sorted(told)))
                    self.assertTrue(model.is_ground(scene, deeds, s, i, set(told)))
                    self.assertIs(shows_ground(scene, deeds, s, i, told), True)
        self.assertGreater(there, 100)

    def test_many_deeds(self):
        deeds = (RUN[:7] * 300)[:2000]
        told = ground(TWO, deeds, 0, 3)
        self.assertIs(shows_ground(TWO, deeds, 0, 3, told), True)
        every = tuple((k, i) for k, deed in enumerate(deeds) if deed[0] == "reckon" for i in range(1 if k < 8 else 4))
        self.assertIs(shows_ground(TWO, deeds, 0, 0, every[:400]), False)
        self.assertIs(shows_ground(TWO, deeds, 0, 3, told + ((2000, 0),)), False)


class Bent(unittest.TestCase):
    def bent(self, thing, told=False):
        self.assertIs(shows_ground(TWO, RUN, 0, 2, thing), told, thing)

    def test_a_pair_fewer(self):
        for at in range(len(GROUND)):
            self.bent(GROUND[:at] + GROUND[at + 1:])
        self.bent(())

    def test_a_pair_more(self):
        # What hangs on nothing beyond does no harm; what does, or is no pair of a reckon, does.
        self.bent(GROUND[:3] + ((6, 0),) + GROUND[3:], True)
        self.bent(GROUND[:3] + ((6, 0), (6, 1)) + GROUND[3:], True)
        self.bent(GROUND[:3] + ((6, 1),) + GROUND[3:])
        self.bent(((0, 0), (0, 1)) + GROUND[1:])
        self.bent(GROUND + ((7, 3),))
        self.bent(GROUND + ((7, 4),))
        self.bent(GROUND + ((8, 0),))
        self.bent(((-1, 0),) + GROUND)
        self.bent(((0, -1),) + GROUND)
        for at in (1, 2, 4, 5):
            self.bent(tuple(sorted(GROUND + ((at, 0),))))

    def test_another_pair(self):
        for at, (k, i) in enumerate(GROUND):
            for other in ((k + 1, i), (k, i + 1), (k - 1, i), (k, i - 1), (None, i), (k, None), (k,), (k, i, 0), [k, i],
                          (True, i), (k, False), (str(k), i), k, None, {k: i}, (k, (i,)), ([], i), (k, {})):
                if other not in GROUND:
                    self.bent(GROUND[:at] + (other,) + GROUND[at + 1:])
        self.bent(((False, 0),) + GROUND[1:])
        self.bent(((0, False),) + GROUND[1:])
        self.bent(GROUND[:2] + ((3, True),) + GROUND[3:])

    def test_order(self):
        self.bent(GROUND[::-1])
        self.bent(GROUND[1:] + GROUND[:1])
        self.bent(GROUND[:1] + GROUND)

    def test_other_kinds(self):
        self.bent(list(GROUND))
        self.bent(dict(GROUND))
        for thing in ODD:
            self.bent(thing)

    def test_of_another_seat_and_level(self):
        self.assertIs(shows_ground(TWO, RUN, 0, 1, GROUND), True)
        self.assertIs(shows_ground(TWO, RUN, 0, 0, GROUND), True)
        self.assertIs(shows_ground(TWO, RUN, 1, 1, GROUND), True)
        self.assertIs(shows_ground(TWO, RUN, 1, 2, GROUND), False)
        self.assertIs(shows_ground(TWO, RUN, 0, 3, GROUND), False)
        self.assertIs(shows_ground(TWO, RUN[:7], 0, 2, GROUND), False)

    def test_against_the_model(self):
        rng = rng_of(152)
        told = []
        for _ in range(20):
            scene = some_scene(rng, 3)
            deeds = some_wavy_run(rng, scene, 40, 0)
            numbers = sure(scene, deeds)[0]
            reckons = [k for k, deed in enumerate(deeds) if deed[0] == "reckon"]
            for s, number in enumerate(numbers):
                if number == 0:
                    continue
                i = number - 1
                whole = set(ground(scene, deeds, s, i))
                for _ in range(30):
                    pairs = set(whole)
                    for _ in range(rng.randrange(3)):
                        pairs.add((rng.choice(reckons), rng.randrange(len(scene[4][0]))))
                    if rng.random() < 0.3:
                        pairs.discard(rng.choice(sorted(pairs)))
                    told.append(shows_ground(scene, deeds, s, i, tuple(sorted(pairs))))
                    self.assertIs(told[-1], model.is_ground(scene, deeds, s, i, pairs))
        self.assertGreater(min(told.count(True), told.count(False)), 50)


class Refused(unittest.TestCase):
    def asks(self, scene, deeds, seat, level):
        return (
            lambda: ground(scene, deeds, seat, level), lambda: shows_ground(scene, deeds, seat, level, None),
        )

    def no_run(self, deeds, at):
        for ask in self.asks(TWO, deeds, None, None) + (lambda: stamps(TWO, deeds),):
            with self.assertRaises(NoRun) as told:
                ask()
            self.assertEqual(told.exception.at, at)

    def test_no_scene(self):
        for thing in ODD:
            for ask in self.asks(thing, None, None, None) + (lambda: stamps(thing, None),):
                self.assertRaises(NoScene, ask)

    def test_no_run(self):
        for thing in ODD:
            if thing != ():
                self.no_run(thing, 0)
        self.no_run((("reckon", 0), ("hear", 0, 1)), 1)
        self.no_run((("reckon", 0),) * 2001, 2000)

    def test_runs_that_are_not_calm(self):
        for change in (("word", 0, 5), ("goes", 1, 0), ("cut", 0, 1), ("strike", 0, (ROW, (ROW,), ((),), ((),)))):
            self.no_run((change,), 0)
            self.no_run(RUN + (change,), 8)
            self.no_run(RUN[:3] + (change, ("reckon", 0), ("word", 0, 5)), 3)
            # What is no run is refused so, wherever its changes are.
            self.no_run((change, ("reckon", 0), ("reckon", 2)), 2)
        self.no_run((("cut", 0, 1), ("put", 0, 1, (ROW, ROW, (), ()))), 0)

    def test_no_seat_then_no_level(self):
        for seat in (2, -1, True, None, "0", (0,), []):
            for level in (0, 4, None):
                for ask in self.asks(TWO, RUN, seat, level):
                    with self.assertRaises(NoSeat) as told:
                        ask()
                    self.assertIs(told.exception.seat, seat)
        for level in (4, -1, True, None, "0", (0,), [], 10 ** 39):
            for ask in self.asks(TWO, RUN, 1, level):
                with self.assertRaises(NoNumber) as told:
                    ask()
                self.assertIs(told.exception.number, level)

    def test_what_is_handed_in_stays(self):
        scene, deeds, thing = right_scene((LEAST,), LINE, (5, 9, 3, 7), (0,) * 4), (("reckon", 0),) * 3, ((2, 0),)
        before = repr((scene, deeds, thing))
        self.assertIs(shows_ground(scene, deeds, 0, 0, thing), True)
        self.assertEqual(ground(scene, deeds, 0, 0), thing)
        self.assertEqual(repr((scene, deeds, thing)), before)
