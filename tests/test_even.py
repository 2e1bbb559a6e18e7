"""[18]: even waves, and how many a scene needs."""

import unittest

from comeright.errors import NoNumber, NoScene
from comeright.plain.reach import reach
from comeright.runs.even import even_behind, even_wave, need
from comeright.runs.runs import behind, is_run
from comeright.runs.waves import waves
from comeright.scenes.scenes import flat_scene, is_right, loud_scene, right_scene
from tests import model
from tests.samples import ALONE, FULL, LEAST, LINE, ODD, PLANS, rng_of, some_parts, some_scene
from tests.test_looks import with_letters

TWO = flat_scene((LEAST,), (2, ((0, 1),)), (5, 9), (0, 0))
ROW = TWO[4][0]


class Waves(unittest.TestCase):
    def test_the_very_run(self):
        self.assertEqual(even_wave(TWO), (
            ("reckon", 0), ("reckon", 1), ("send", 0, 1), ("send", 1, 0), ("hear", 1, 0), ("hear", 0, 1),
        ))
        scene = TWO[:6] + (((0, 1, (ROW,) * 2), (1, 0, (ROW,) * 3)),)
        self.assertEqual(even_wave(scene), (("hear", 1, 0),) * 2 + (("hear", 0, 1),) * 3 + even_wave(TWO))
        self.assertEqual(even_wave(flat_scene((LEAST,), ALONE, (5,), (0,))), (("reckon", 0),))
        line = flat_scene((LEAST,), (3, ((0, 1), (1, 2))), (5, 9, 3), (0,) * 3)
        self.assertEqual(even_wave(line[:6] + (line[6][:2] + ((1, 2, (line[4][0],)),) + line[6][3:],)), (
            ("hear", 2, 1), ("reckon", 0), ("reckon", 1), ("reckon", 2), ("send", 0, 1), ("send", 1, 0), ("send", 1, 2),
            ("send", 2, 1), ("hear", 1, 0), ("hear", 0, 1), ("hear", 2, 1), ("hear", 1, 2),
        ))

    def test_full_roads(self):
        scene = with_letters(loud_scene(PLANS, FULL, (3,) * 12, (0, 1, 2) * 4), 8)
        self.assertEqual(len(even_wave(scene)), 132 * 8 + 12 + 132 + 132)
        self.assertIs(is_run(scene, even_wave(scene)), True)
        self.assertEqual(waves(scene, even_wave(scene)), 1)
        self.assertEqual(behind(scene, even_wave(scene)), even_behind(scene, 1))

    def test_behind_so_many(self):
        rng = rng_of(18)
        for _ in range(40):
            scene = some_scene(rng, 5)
            self.assertEqual(even_wave(scene), model.even(scene))
            self.assertEqual(even_wave(scene), even_wave(scene))
            self.assertEqual(even_behind(scene, 0), scene)
            told = scene
            for many in range(1, 5):
                told = model.all_behind(told, model.even(told))
                self.assertEqual(even_behind(scene, many), told)
            self.assertEqual(even_behind(scene, 100), even_behind(scene, 8))
            self.assertIs(is_right(even_behind(scene, 100)), True)

    def test_no_such_number(self):
        for many in (101, -1, True, False, None, "1", (1,), [], 10 ** 39):
            with self.assertRaises(NoNumber) as told:
                even_behind(TWO, many)
            self.assertIs(told.exception.number, many)
        for thing in ODD:
            self.assertRaises(NoScene, even_wave, thing)
            self.assertRaises(NoScene, even_behind, thing, thing)
            self.assertRaises(NoScene, need, thing)

    def test_what_is_handed_in_stays(self):
        scene = with_letters(TWO, 3)
        before = repr(scene)
        self.assertEqual((need(scene), even_behind(scene, 2)), (need(scene), even_behind(scene, 2)))
        self.assertEqual(repr(scene), before)


class Needs(unittest.TestCase):
    def test_of_right_scenes(self):
        right = right_scene((LEAST,), LINE, (5, 9, 3, 7), (0,) * 4)
        self.assertEqual(need(right), 0)
        self.assertEqual(need(with_letters(right, 8)), 0)
        # A letter that isn't right is heard ahead of all reckons.
        self.assertEqual(need(right[:6] + (((0, 1, ((1, 2, 3, 4),)),) + right[6][1:],)), 4)

    def test_of_flat_and_loud_scenes(self):
        # The least word within three steps: none is 0, so each round needs a wave, and one more.
        self.assertEqual(need(flat_scene((LEAST,), LINE, (5, 9, 3, 7), (0,) * 4)), 4)
        self.assertEqual(need(flat_scene((LEAST,), FULL, (5,) * 12, (0,) * 12)), 4)
        # The least word is two steps away from seat 0, and no other one is further away from its own.
        self.assertEqual(need(loud_scene((LEAST,), LINE, (5, 9, 3, 7), (0,) * 4)), 3)
        self.assertEqual(need(flat_scene((LEAST,), (3, ()), (5, 9, 3), (0,) * 3)), 1)
        self.assertEqual(need(flat_scene((LEAST,), (3, ()), (0,) * 3, (0,) * 3)), 0)

    def test_a_letter_that_is_heard_ahead_of_the_reckons(self):
        scene = right_scene((LEAST,), (2, ((0, 1),)), (5, 9), (0, 0))
        low = (0, 0, 0, 0)
        self.assertEqual(need(scene[:6] + (((0, 1, (low, scene[4][0])), (1, 0, ())),)), 1)
        self.assertEqual(need(scene[:6] + (((0, 1, (scene[4][0], low)), (1, 0, ())),)), 4)

    def test_at_most_one_more_than_the_greatest_reach(self):
        rng = rng_of(181)
        found = set()
        for number in range(120):
            scene = some_scene(rng, 6)
            if number % 4 == 1:
                scene = flat_scene(*some_parts(rng, 8))
            if number % 4 == 2:
                scene = loud_scene(*some_parts(rng, 8))
            if number % 4 == 3:
                scene = with_letters(right_scene(*some_parts(rng, 8)), number % 3)
            many = need(scene)
            found.add(many)
            for k in range(many):
                self.assertIs(is_right(even_behind(scene, k)), False)
            self.assertIs(is_right(even_behind(scene, many)), True)
            self.assertLessEqual(many, 1 + max(max(row) for row in reach(scene[0], scene[1], scene[3])))
        self.assertGreater(len(found), 3)
