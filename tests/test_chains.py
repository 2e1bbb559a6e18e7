"""[17]: wrong levels, unfounded ones, chains."""

import unittest

from comeright.errors import NoNumber, NoScene, NoSeat
from comeright.looks.chains import chain, is_unfounded, shows_chain, wrong_levels
from comeright.looks.looks import alarms
from comeright.plain.reach import reach
from comeright.scenes.scenes import flat_scene, is_right, right_scene
from tests import model
from tests.samples import LEAST, LINE, ODD, PLANS, STILL, rng_of, some_parts, some_row, some_scene
from tests.test_looks import bent, with_letters

RIGHT = right_scene((LEAST,), LINE, (5, 9, 3, 7), (0,) * 4)
# All is as from a plain run in which seat 0 has the word 2, which it hasn't: all levels near it are wrong, and just
# one is unfounded.
ELSE = right_scene((LEAST,), LINE, (2, 9, 3, 7), (0,) * 4)
ELSE = ELSE[:2] + (RIGHT[2],) + ELSE[3:]
WRONG = ((0, 0), (0, 1), (0, 2), (0, 3), (1, 1), (1, 2), (1, 3), (2, 2), (2, 3), (3, 3))


class Wrong(unittest.TestCase):
    def test_wrong_levels(self):
        self.assertEqual(wrong_levels(RIGHT), ())
        self.assertEqual(wrong_levels(with_letters(RIGHT, 3)), ())
        self.assertEqual(wrong_levels(ELSE), WRONG)
        self.assertEqual(wrong_levels(bent(RIGHT, 4, 2, RIGHT[4][2][:3] + (996,))), ((2, 3),))
        # Of copies and letters none is told.
        self.assertEqual(wrong_levels(bent(RIGHT, 5, 0, (1, 2, 3, 4))), ())

    def test_levels_that_a_plan_lacks_are_to_be_0(self):
        scene = right_scene((LEAST, STILL), LINE, (5, 9, 3, 7), (0, 1, 0, 1))
        self.assertEqual(wrong_levels(bent(scene, 4, 1, scene[4][1][:1] + (1, 0, 2))), ((1, 1), (1, 3)))
        self.assertIs(is_unfounded(bent(scene, 4, 1, scene[4][1][:1] + (1, 0, 2)), 1, 1), True)
        self.assertIs(is_unfounded(bent(scene, 4, 1, scene[4][1][:1] + (1, 0, 2)), 1, 2), False)
        self.assertIs(is_unfounded(bent(scene, 4, 1, scene[4][1][:1] + (1, 0, 2)), 1, 3), True)
        self.assertEqual(chain(bent(scene, 4, 1, scene[4][1][:1] + (1, 0, 2)), 1, 3), ((1, 3),))

    def test_unfounded(self):
        for seat in range(4):
            for level in range(4):
                self.assertIs(is_unfounded(RIGHT, seat, level), False)
                self.assertIs(is_unfounded(ELSE, seat, level), (seat, level) == (0, 0))

    def test_unfounded_by_what_is_made(self):
        scene = bent(RIGHT, 4, 0, (5, 5, 6, 4))
        self.assertEqual([is_unfounded(scene, 0, i) for i in range(4)], [False, False, True, True])
        # Level 3 goes by the level 2 that stands there, and by what seat 0 has of seat 1.
        scene = bent(RIGHT, 4, 0, (5, 5, 1, 1))
        self.assertEqual([is_unfounded(scene, 0, i) for i in range(4)], [False, False, True, False])

    def test_unfounded_by_a_copy(self):
        # A copy of which no worth is less than its own changes nothing of what seat 0 makes, but isn't the neighbour's.
        scene = bent(RIGHT, 5, 0, (9, 8, 996, 996))
        self.assertEqual([is_unfounded(scene, 0, i) for i in range(4)], [False, False, True, True])
        self.assertEqual(wrong_levels(scene), ())
        # The greatest level of a copy, and what a plan that doesn't look has, founds nothing.
        self.assertIs(is_unfounded(bent(RIGHT, 5, 0, RIGHT[4][1][:3] + (996,)), 0, 3), False)
        plans = (LEAST, (("word",), (("own",),) * 3))
        scene = bent(right_scene(plans, LINE, (5, 9, 3, 7), (1, 0, 0, 0)), 5, 0, (1, 1, 1, 1))
        self.assertEqual([is_unfounded(scene, 0, i) for i in range(4)], [False] * 4)

    def test_a_letter_founds_nothing(self):
        scene = bent(RIGHT, 6, 1, ((1, 2, 3, 4),))
        self.assertEqual([is_unfounded(scene, s, i) for s in range(4) for i in range(4)], [False] * 16)
        self.assertEqual(wrong_levels(scene), ())
        self.assertEqual(alarms(scene), (0,))


class Chains(unittest.TestCase):
    def test_none_from_others(self):
        for seat in range(4):
            for level in range(4):
                self.assertIsNone(chain(RIGHT, seat, level))
                self.assertIs(shows_chain(RIGHT, seat, level, None), True)
                self.assertIs(shows_chain(RIGHT, seat, level, ((seat, level),)), False)
                if (seat, level) not in WRONG:
                    self.assertIsNone(chain(ELSE, seat, level))
                    self.assertIs(shows_chain(ELSE, seat, level, ()), False)
                    self.assertIs(shows_chain(ELSE, seat, level, None), True)

    def test_to_what_is_unfounded(self):
        self.assertEqual(chain(ELSE, 0, 0), ((0, 0),))
        self.assertEqual(chain(ELSE, 3, 3), ((3, 3), (2, 2), (1, 1), (0, 0)))
        for place in WRONG:
            told = chain(ELSE, *place)
            self.assertEqual(told, chain(ELSE, *place))
            self.assertEqual((told[0], told[-1]), (place, (0, 0)))
            self.assertIs(shows_chain(ELSE, *place, told), True)
            self.assertIs(shows_chain(ELSE, *place, None), False)

    def test_several_chains(self):
        for told in (((0, 2), (0, 1), (0, 0)), ((0, 2), (1, 1), (0, 0))):
            self.assertIs(shows_chain(ELSE, 0, 2, told), True)
        self.assertIs(shows_chain(ELSE, 1, 3, ((1, 3), (2, 2), (1, 1), (0, 0))), True)

    def test_bent_chains(self):
        good = ((1, 3), (1, 2), (1, 1), (0, 0))
        self.assertIs(shows_chain(ELSE, 1, 3, good), True)
        for thing in (
            (), good[:3], good[1:], good + ((0, 0),), good[:2] + good[3:], good[:1] + good[2:], list(good), good[::-1],
            ((1, 3), (3, 2), (2, 1), (1, 0)), ((1, 3), (1, 2), (1, 1), (1, 0)), ((1, 3), (1, 2), (2, 1), (1, 0)),
            ((1, 3), (1, 1), (0, 0)), ((0, 3),) + good[1:], ((1, 3), (0, 3), (0, 2), (0, 1), (0, 0)),
            ((1, 3), (1, 2), (1, 1), (False, 0)), ((1, 3), (1, 2), (True, 1), (0, 0)), ((1, 3), (1, 2), (1, 1), (0, False)),
            ((1, 3), (1, 2), (1, True), (0, 0)), ((1, 3), (1, 2), [1, 1], (0, 0)), ((1, 3), (1, 2), (1, 1, 0), (0, 0)),
            ((1, 3), (1, 2), (1,), (0, 0)), ((1, 3), (1, 2), None, (0, 0)), ((1, 3), (4, 2), (1, 1), (0, 0)),
            ((1, 3), (1, 4), (1, 1), (0, 0)), ((1, 3), (-1, 2), (1, 1), (0, 0)), ((1, 3), ([], 2), (1, 1), (0, 0)),
            (1, 3), ((1, 3), (1, 2), (1, 1), (0, 0), (0, -1)), good * 2,
        ):
            self.assertIs(shows_chain(ELSE, 1, 3, thing), False, thing)
        for thing in ODD:
            self.assertIs(shows_chain(ELSE, 1, 3, thing), False)
            if thing is not None:
                self.assertIs(shows_chain(RIGHT, 1, 3, thing), False)

    def test_the_last_one_alone_is_unfounded(self):
        flat = flat_scene((LEAST,), LINE, (5, 9, 3, 7), (0,) * 4)
        self.assertEqual(chain(flat, 0, 0), ((0, 0),))
        told = chain(flat, 0, 3)
        self.assertIs(shows_chain(flat, 0, 3, told), True)
        # Level 1 of 0 is made of what stands there: but level 0 isn't.
        self.assertIs(is_unfounded(flat, 0, 1), False)
        twice = bent(flat, 4, 0, (0, 7, 0, 0))
        self.assertIs(is_unfounded(twice, 0, 1), True)
        self.assertIs(shows_chain(twice, 0, 1, ((0, 1),)), True)
        self.assertIs(shows_chain(twice, 0, 1, ((0, 1), (0, 0))), False)

    def test_where_the_level_ahead_does_not_look(self):
        plans = ((("word",), (("least",), ("plus", ("own",), 1))),)
        scene = right_scene(plans, LINE, (2, 9, 3, 7), (0,) * 4)
        scene = scene[:2] + ((5, 9, 3, 7),) + scene[3:]
        self.assertEqual(wrong_levels(scene), ((0, 0), (1, 1), (1, 2)))
        self.assertEqual(chain(scene, 1, 2), ((1, 2), (1, 1), (0, 0)))
        bad = bent(scene, 4, 0, (2, 4, 5))
        self.assertIs(shows_chain(bad, 1, 2, ((1, 2), (0, 1))), False)

    def test_from_each_wrong_level(self):
        rng = rng_of(17)
        longest = 0
        for number in range(90):
            if number % 3 == 0:
                scene = some_scene(rng, 5)
            else:
                # A scene that is right by other words, or but for one row: few levels are unfounded.
                parts = some_parts(rng, 6)
                scene = right_scene(*parts)
                scene = scene[:2] + (some_row(rng, parts[1][0]),) + scene[3:]
                if number % 3 == 1:
                    scene = bent(right_scene(*parts), 4, rng.randrange(parts[1][0]), some_row(rng, len(scene[4][0])))
            places = wrong_levels(scene)
            self.assertEqual(list(places), model.wrong(scene))
            width = len(scene[4][0])
            for s in range(scene[1][0]):
                for i in range(width):
                    self.assertIs(is_unfounded(scene, s, i), model.unfounded(scene, s, i))
                    told = chain(scene, s, i)
                    self.assertEqual(told is not None, (s, i) in places)
                    if told is not None:
                        longest = max(longest, len(told))
                        self.assertTrue(model.is_chain(scene, s, i, told))
                        self.assertIs(shows_chain(scene, s, i, told), True)
                        self.within_its_reach(scene, s, i)
            self.bend(rng, scene, places, width)
            self.assertFalse(is_right(scene) and places)
        self.assertGreater(longest, 3)

    def within_its_reach(self, scene, seat, level):
        steps = model.far(scene[1])
        far = reach(scene[0], scene[1], scene[3])[seat][level]
        self.assertTrue(any(steps[seat, u] is not None and steps[seat, u] <= far for u in alarms(scene)))

    def bend(self, rng, scene, places, width):
        for _ in range(30 if places else 0):
            place = rng.choice(places)
            row = (place,)
            while row[-1][1] > 0 and rng.random() < 0.8:
                row += ((rng.randrange(scene[1][0]) if rng.random() < 0.4 else row[-1][0], row[-1][1] - 1),)
            self.assertIs(shows_chain(scene, *place, row), model.is_chain(scene, *place, row))


class Refused(unittest.TestCase):
    def asks(self, scene, seat, level):
        return (
            lambda: is_unfounded(scene, seat, level), lambda: chain(scene, seat, level),
            lambda: shows_chain(scene, seat, level, None),
        )

    def test_scene_then_seat_then_level(self):
        for thing in ODD:
            for ask in self.asks(thing, thing, thing) + (lambda: wrong_levels(thing),):
                self.assertRaises(NoScene, ask)
        for seat in (4, -1, True, None, "0", (0,), []):
            for level in (0, 4, None):
                for ask in self.asks(RIGHT, seat, level):
                    with self.assertRaises(NoSeat) as told:
                        ask()
                    self.assertIs(told.exception.seat, seat)
        for level in (4, -1, True, None, "0", (0,), [], 10 ** 39):
            for ask in self.asks(RIGHT, 3, level):
                with self.assertRaises(NoNumber) as told:
                    ask()
                self.assertIs(told.exception.number, level)

    def test_the_edges_of_the_width(self):
        narrow = right_scene((STILL,), LINE, (5, 9, 3, 7), (0,) * 4)
        self.assertIsNone(chain(narrow, 0, 0))
        self.assertRaises(NoNumber, chain, narrow, 0, 1)
        wide = right_scene(PLANS, LINE, (5, 9, 3, 7), (2,) * 4)
        self.assertIs(is_unfounded(wide, 0, 3), False)
        self.assertRaises(NoNumber, is_unfounded, wide, 0, 4)

    def test_what_is_handed_in_stays(self):
        before = repr((ELSE, WRONG))
        for place in WRONG:
            shows_chain(ELSE, *place, chain(ELSE, *place))
        self.assertEqual(repr((ELSE, WRONG)), before)
