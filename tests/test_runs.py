"""[11]: runs and their moments."""

import unittest

from comeright.errors import NoNumber, NoRun, NoScene
from comeright.runs.runs import MOST_DEEDS, behind, is_run, last_change, scene_at
from comeright.scenes.deeds import done
from comeright.scenes.scenes import right_scene
from tests import model
from tests.samples import LEAST, LINE, ODD, rng_of, some_deed, some_scene

SCENE = right_scene((LEAST,), LINE, (5, 9, 3, 7), (0,) * 4)
DEEDS = (("send", 0, 1), ("hear", 1, 0), ("cut", 0, 1), ("reckon", 0), ("word", 3, 7), ("reckon", 3))


class Runs(unittest.TestCase):
    def no_run(self, deeds, at):
        self.assertIs(is_run(SCENE, deeds), False)
        for ask in (behind, last_change):
            with self.assertRaises(NoRun) as told:
                ask(SCENE, deeds)
            self.assertEqual(told.exception.at, at)
        with self.assertRaises(NoRun) as told:
            scene_at(SCENE, deeds, None)
        self.assertEqual(told.exception.at, at)

    def test_no_deeds(self):
        self.assertIs(is_run(SCENE, ()), True)
        self.assertEqual(behind(SCENE, ()), SCENE)
        self.assertEqual(scene_at(SCENE, (), 0), SCENE)
        self.assertEqual(last_change(SCENE, ()), 0)

    def test_moments(self):
        scene = SCENE
        for moment in range(len(DEEDS) + 1):
            self.assertEqual(scene_at(SCENE, DEEDS, moment), scene)
            self.assertEqual(behind(SCENE, DEEDS[:moment]), scene)
            if moment < len(DEEDS):
                scene = done(scene, DEEDS[moment])
        self.assertEqual(behind(SCENE, DEEDS), scene)

    def test_last_change(self):
        for moment, told in enumerate((0, 0, 0, 3, 3, 5, 5)):
            self.assertEqual(last_change(SCENE, DEEDS[:moment]), told)
        for deed in (("word", 0, 5), ("goes", 0, 0), ("strike", 0, (SCENE[4][0], (SCENE[4][1],), ((),), ((),)))):
            self.assertEqual(last_change(SCENE, (("reckon", 1), deed, ("reckon", 2))), 2)

    def test_each_deed_is_of_the_scene_that_it_meets(self):
        self.no_run((("send", 0, 1), ("hear", 1, 0), ("hear", 1, 0)), 2)
        self.no_run((("cut", 0, 1), ("send", 0, 1), ("send", 9, 9)), 1)
        self.no_run((("hear", 1, 0), ("send", 0, 1)), 0)
        self.no_run((("cut", 0, 1), ("cut", 0, 1)), 1)
        self.no_run(DEEDS + (("put", 0, 1, ()),), 6)
        self.assertIs(is_run(SCENE, (("send", 0, 1),) * 9 + (("hear", 1, 0),) * 8), True)
        self.no_run((("send", 0, 1),) * 9 + (("hear", 1, 0),) * 9, 17)

    def test_no_row(self):
        for thing in ODD:
            if thing != ():
                self.no_run(thing, 0)
        self.no_run(list(DEEDS), 0)
        self.no_run({0: DEEDS[0]}, 0)
        self.no_run(DEEDS[:3] + (list(DEEDS[3]),), 3)
        self.no_run((DEEDS,), 0)

    def test_how_many(self):
        self.assertEqual(MOST_DEEDS, 2000)
        most = (("reckon", 1), ("word", 0, 3)) * 1000
        self.assertIs(is_run(SCENE, most), True)
        self.assertEqual(last_change(SCENE, most), 2000)
        self.assertEqual(scene_at(SCENE, most, 2000), behind(SCENE, most[:2]))
        self.no_run(most + (("reckon", 1),), 2000)
        self.no_run(most + (None, None), 2000)
        self.no_run(most[:1999] + (None,), 1999)
        self.no_run(most[:1999] + (None,) + most, 1999)
        self.no_run(most * 3, 2000)

    def test_moments_beyond(self):
        for moment in (7, -1, True, None, "1", (1,), [], 10 ** 39):
            with self.assertRaises(NoNumber) as told:
                scene_at(SCENE, DEEDS, moment)
            self.assertIs(told.exception.number, moment)
        self.assertRaises(NoNumber, scene_at, SCENE, (), 1)

    def test_no_scene(self):
        for thing in ODD:
            for ask in (is_run, behind, last_change):
                self.assertRaises(NoScene, ask, thing, thing)
            self.assertRaises(NoScene, scene_at, thing, thing, thing)

    def test_against_the_model(self):
        rng = rng_of(11)
        for _ in range(25):
            scene = first = some_scene(rng, 5)
            deeds, last = [], 0
            for _ in range(40):
                deeds.append(some_deed(rng, scene, 20))
                scene = model.behind(scene, deeds[-1])
                last = len(deeds) if model.seats_of(deeds[-1]) else last
            self.assertIs(is_run(first, tuple(deeds)), True)
            self.assertEqual(behind(first, tuple(deeds)), scene)
            self.assertEqual(last_change(first, tuple(deeds)), last)
