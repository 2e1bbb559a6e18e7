"""[9], and flat and loud of [18]: scenes, what they tell, whether they are right."""

import unittest

from comeright.errors import NoGoes, NoPlans, NoScene, NoSeat, NoWeb, NoWords
from comeright.scenes.scenes import (
    ROAD, copy_of, flat_scene, is_right, is_scene, loud_scene, plain_of, right_scene, road_of, row_of, tells,
)
from tests import model
from tests.samples import ALONE, APART, LEAST, LINE, ODD, PLANS, STILL, WALKS, rng_of, some_parts, some_scene, spoiled

TWO = (2, ((0, 1),))
SMALL = ((WALKS,), TWO, (4, 5), (0, 0), ((1, 1, 1), (1, 1, 1)), ((0, 1, (1, 1, 1)), (1, 0, (1, 1, 1))),
         ((0, 1, ((1, 1, 1),)), (1, 0, ())))


def changed(scene, **parts):
    """The scene with some parts made anew."""
    names = ("plans", "web", "words", "goes", "rows", "copies", "roads")
    return tuple(parts.get(name, part) for name, part in zip(names, scene))


class IsScene(unittest.TestCase):
    def test_scenes(self):
        self.assertEqual(ROAD, 8)
        self.assertIs(is_scene(SMALL), True)
        rng = rng_of(9)
        for _ in range(60):
            self.assertIs(is_scene(some_scene(rng, 5)), True)
        self.assertIs(is_scene(some_scene(rng, 12)), True)

    def test_of_anything(self):
        for thing in ODD:
            self.assertIs(is_scene(thing), False)
        for thing in spoiled(SMALL):
            self.assertIs(is_scene(thing), False, thing)

    def test_width(self):
        long, short = (1, 1, 1, 1), (1, 1)
        for row in (long, short, ()):
            self.assertIs(is_scene(changed(SMALL, rows=((1, 1, 1), row))), False)
            self.assertIs(is_scene(changed(SMALL, copies=((0, 1, row), (1, 0, (1, 1, 1))))), False)
            self.assertIs(is_scene(changed(SMALL, roads=((0, 1, (row,)), (1, 0, ())))), False)
        self.assertIs(is_scene(changed(SMALL, plans=(WALKS, LEAST))), False)
        self.assertIs(is_scene(changed(SMALL, plans=(WALKS, STILL))), True)

    def test_how_many_rows(self):
        row = (1, 1, 1)
        for many in (0, 1, 3):
            self.assertIs(is_scene(changed(SMALL, rows=(row,) * many)), False)
            self.assertIs(is_scene(changed(SMALL, words=(0,) * many)), False)
            self.assertIs(is_scene(changed(SMALL, goes=(0,) * many)), False)

    def test_copies_and_roads_of_each_two_neighbours(self):
        row = (1, 1, 1)
        for name, one in (("copies", row), ("roads", ()), ("roads", (row, row))):
            good = ((0, 1, one), (1, 0, one))
            self.assertIs(is_scene(changed(SMALL, **{name: good})), True)
            for bad in (
                good[:1], good[1:], (), good[::-1], (good[0], good[0], good[1]), good + good[1:],
                ((0, 0, one),) + good, ((0, 1, one), (1, 2, one)), good + ((2, 0, one),), ((0, 1), (1, 0)),
                ((False, 1, one), (1, 0, one)), ((0, True, one), (1, 0, one)), ((0, 1, one, one), (1, 0, one)),
            ):
                self.assertIs(is_scene(changed(SMALL, **{name: bad})), False, bad)

    def test_of_seats_without_ties(self):
        scene = ((STILL,), APART, (0,) * 6, (0,) * 6, ((1,),) * 6, (), ())
        self.assertIs(is_scene(scene), False)
        self.assertIs(is_scene(((STILL,), ALONE, (0,), (0,), ((1,),), (), ())), True)
        self.assertIs(is_scene(((STILL,), ALONE, (0,), (0,), ((1,),), ((0, 1, (1,)),), ())), False)

    def test_how_many_letters(self):
        for many in range(10):
            roads = ((0, 1, ((1, 2, 3),) * many), (1, 0, ()))
            self.assertIs(is_scene(changed(SMALL, roads=roads)), many <= 8)

    def test_rows_need_not_be_right(self):
        self.assertIs(is_scene(changed(SMALL, rows=((996, 0, 3), (5, 5, 5)))), True)


class Right(unittest.TestCase):
    def test_right_scenes_without_letters(self):
        rng = rng_of(90)
        for _ in range(60):
            parts = some_parts(rng, 5)
            scene = right_scene(*parts)
            rows = model.run(*parts)
            self.assertIs(is_scene(scene), True)
            self.assertEqual(scene[:4], parts)
            self.assertEqual(scene[4], rows)
            self.assertEqual(plain_of(scene), rows)
            for seat, other, row in scene[5]:
                self.assertEqual(row, rows[other])
            self.assertEqual({letters for _, _, letters in scene[6]} - {()}, set())
            self.assertIs(is_right(scene), True)

    def test_flat_and_loud(self):
        rng = rng_of(18)
        for made, worth in ((flat_scene, 0), (loud_scene, 996)):
            for _ in range(20):
                parts = some_parts(rng, 5)
                scene = made(*parts)
                row = (worth,) * (1 + max(len(nexts) for _, nexts in parts[0]))
                self.assertIs(is_scene(scene), True)
                self.assertEqual(scene[:4], parts)
                self.assertEqual(set(scene[4]), {row})
                self.assertEqual({held for _, _, held in scene[5]} - {row}, set())
                self.assertEqual({letters for _, _, letters in scene[6]} - {()}, set())

    def test_right_but_for_one_worth(self):
        plans, web, words, goes = PLANS, LINE, (5, 9, 3, 7), (1, 2, 1, 0)
        right = right_scene(plans, web, words, goes)
        rows = right[4]
        letters = tuple((s, u, (rows[s], rows[s])) for s, u, _ in right[6])
        full = changed(right, roads=letters)
        self.assertIs(is_right(full), True)
        # Level 3 of seats 0 to 2 is one that their plans lack.
        for seat in range(4):
            for at in range(4):
                wrong = rows[seat][:at] + ((rows[seat][at] + 1) % 997,) + rows[seat][at + 1:]
                self.assertIs(is_right(changed(full, rows=rows[:seat] + (wrong,) + rows[seat + 1:])), False)
                for k, (s, u, row) in enumerate(full[5]):
                    if u == seat:
                        copies = full[5][:k] + ((s, u, wrong),) + full[5][k + 1:]
                        self.assertIs(is_right(changed(full, copies=copies)), False)
                for k, (s, u, row) in enumerate(letters):
                    if s == seat:
                        roads = letters[:k] + ((s, u, (rows[s], wrong)),) + letters[k + 1:]
                        self.assertIs(is_right(changed(full, roads=roads)), False)

    def test_a_letter_is_the_senders_row(self):
        right = right_scene((STILL,), TWO, (4, 5), (0, 0))
        roads = lambda one, two: ((0, 1, ((one,),)), (1, 0, ((two,),)))
        self.assertIs(is_right(changed(right, roads=roads(5, 6))), True)
        self.assertIs(is_right(changed(right, roads=roads(6, 5))), False)

    def test_plain_of_is_not_what_stands(self):
        scene = changed(SMALL, rows=((9, 9, 9), (8, 8, 8)))
        self.assertEqual(plain_of(scene), ((1, 1, 1), (1, 1, 1)))
        self.assertEqual(tells(scene), (9, 8))

    def test_refused_in_order(self):
        for ask in (right_scene, flat_scene, loud_scene):
            for thing in ODD:
                self.assertRaises(NoPlans, ask, thing, thing, thing, thing)
                self.assertRaises(NoWeb, ask, PLANS, thing, thing, thing)
                self.assertRaises(NoWords, ask, PLANS, LINE, thing, thing)
                self.assertRaises(NoGoes, ask, PLANS, LINE, (0, 0, 0, 0), thing)


class Parts(unittest.TestCase):
    def setUp(self):
        self.scene = some_scene(rng_of(99), 12)
        while len(self.scene[6]) < 6:
            self.scene = some_scene(rng_of(len(self.scene[6]) + 100), 12)

    def test_tells_by_the_rounds_of_its_plan(self):
        scene = (PLANS, LINE, (0,) * 4, (0, 1, 2, 1), ((1, 2, 3, 4), (5, 6, 7, 8), (9, 10, 11, 12), (13, 14, 15, 16)))
        copies = tuple((s, u, (0, 0, 0, 0)) for s, u in model_pairs(LINE))
        roads = tuple((s, u, ()) for s, u in model_pairs(LINE))
        self.assertEqual(tells(scene + (copies, roads)), (4, 7, 9, 15))

    def test_rows_copies_and_roads(self):
        for seat, row in enumerate(self.scene[4]):
            self.assertEqual(row_of(self.scene, seat), row)
        for seat, other, row in self.scene[5]:
            self.assertEqual(copy_of(self.scene, seat, other), row)
        for seat, other, letters in self.scene[6]:
            self.assertEqual(road_of(self.scene, seat, other), letters)

    def test_no_scene(self):
        for thing in ODD + (changed(SMALL, rows=()),):
            for ask in (is_right, plain_of, tells):
                self.assertRaises(NoScene, ask, thing)
            self.assertRaises(NoScene, row_of, thing, None)
            self.assertRaises(NoScene, copy_of, thing, None, None)
            self.assertRaises(NoScene, road_of, thing, None, None)

    def test_no_seat(self):
        scene = right_scene(PLANS, LINE, (0,) * 4, (0,) * 4)
        for ask, parts, borne in (
            (row_of, (4,), 4), (row_of, (True,), True), (row_of, ("0",), "0"),
            (copy_of, (0, 2), 2), (copy_of, (2, 0), 0), (copy_of, (1, 1), 1), (copy_of, (4, 9), 4), (copy_of, (0, 9), 9),
            (copy_of, (None, 1), None), (copy_of, (0, True), True), (copy_of, (True, 0), True), (copy_of, (-1, 0), -1),
        ):
            for asked in {ask, road_of} if ask is copy_of else (ask,):
                with self.assertRaises(NoSeat) as told:
                    asked(scene, *parts)
                self.assertIs(told.exception.seat, borne)
        for thing in ODD:
            for ask in (lambda: row_of(scene, thing), lambda: copy_of(scene, thing, None),
                        lambda: road_of(scene, thing, None), lambda: copy_of(scene, 0, thing),
                        lambda: road_of(scene, 0, thing)):
                with self.assertRaises(NoSeat) as told:
                    ask()
                self.assertIs(told.exception.seat, thing)


def model_pairs(web):
    return [(s, u) for s in range(web[0]) for u in model.near(web, s)]
