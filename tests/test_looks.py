"""[16]: looks and alarms."""

import unittest

from comeright.errors import NoScene, NoSeat
from comeright.looks.looks import agrees, alarms
from comeright.scenes.scenes import is_right, right_scene
from tests import model
from tests.samples import LEAST, LINE, ODD, PLANS, rng_of, some_parts, some_row, some_scene, two_ways

RIGHT = right_scene((LEAST,), LINE, (5, 9, 3, 7), (0,) * 4)
BAD = (1, 2, 3, 4)


def with_letters(scene, many):
    return scene[:6] + (tuple((s, u, (scene[4][s],) * many) for s, u in two_ways(scene[1])),)


def bent(scene, part, at, thing):
    """The scene with another thing at a place of its rows (4), or of its copies (5) or roads (6)."""
    entry = thing if part == 4 else scene[part][at][:2] + (thing,)
    return scene[:part] + (scene[part][:at] + (entry,) + scene[part][at + 1:],) + scene[part + 1:]


class Looks(unittest.TestCase):
    def test_right_scenes(self):
        for scene in (RIGHT, with_letters(RIGHT, 1), with_letters(RIGHT, 8)):
            self.assertEqual(alarms(scene), ())
            for seat in range(4):
                self.assertIs(agrees(scene, seat), True)

    def test_a_row(self):
        # Its own look, and those of its neighbours, which have another row of it.
        self.assertEqual(alarms(bent(RIGHT, 4, 0, BAD)), (0, 1))
        self.assertEqual(alarms(bent(RIGHT, 4, 1, BAD)), (0, 1, 2))

    def test_a_copy(self):
        # Copies as they rise: (0, 1), (1, 0), (1, 2), (2, 1), (2, 3), (3, 2).
        for at, seat in enumerate((0, 1, 1, 2, 2, 3)):
            self.assertEqual(alarms(bent(RIGHT, 5, at, BAD)), (seat,))
            last = RIGHT[5][at][2][:3] + (996,)
            self.assertEqual(alarms(bent(RIGHT, 5, at, last)), (seat,))

    def test_a_letter(self):
        scene = with_letters(RIGHT, 2)
        for at, seat in enumerate((1, 0, 2, 1, 3, 2)):
            row = RIGHT[4][RIGHT[6][at][0]]
            for letters in ((BAD,), (row, BAD), (BAD, row), (row,) * 7 + (BAD,)):
                self.assertEqual(alarms(bent(scene, 6, at, letters)), (seat,))

    def test_words(self):
        told = alarms(RIGHT[:2] + ((1, 9, 3, 7),) + RIGHT[3:])
        self.assertEqual(told, (0,))

    def test_levels_that_a_plan_lacks(self):
        scene = right_scene(PLANS, LINE, (5, 9, 3, 7), (0, 1, 2, 2))
        row = scene[4][2]
        self.assertEqual(row[1:], (0, 0, 0))
        worse = bent(scene, 4, 2, row[:3] + (1,))
        self.assertIs(agrees(worse, 2), False)
        self.assertIs(agrees(bent(scene, 4, 0, scene[4][0][:3] + (996,)), 0), False)

    def test_all_agree_just_where_it_is_right(self):
        rng = rng_of(16)
        found = set()
        for number in range(150):
            scene = some_scene(rng, 5) if number % 3 == 0 else with_letters(right_scene(*some_parts(rng, 5)), number % 2)
            if number % 3 == 2:
                part = rng.choice((4, 5, 6)) if scene[5] else 4
                at = rng.randrange(len(scene[part]))
                row = some_row(rng, len(scene[4][0]))
                scene = bent(scene, part, at, (row,) if part == 6 else row)
            told = alarms(scene)
            self.assertEqual(told, tuple(s for s in range(scene[1][0]) if not model.agrees(scene, s)))
            for seat in range(scene[1][0]):
                self.assertIs(agrees(scene, seat), seat not in told)
            self.assertIs(is_right(scene), told == ())
            found.add(len(told))
        self.assertGreater(len(found), 3)

    def test_refused(self):
        for thing in ODD:
            self.assertRaises(NoScene, agrees, thing, thing)
            self.assertRaises(NoScene, alarms, thing)
        for seat in (4, -1, True, None, "0", (0,), []):
            with self.assertRaises(NoSeat) as told:
                agrees(RIGHT, seat)
            self.assertIs(told.exception.seat, seat)
        before = repr(RIGHT)
        self.assertEqual(alarms(RIGHT), alarms(RIGHT))
        self.assertEqual(repr(RIGHT), before)
