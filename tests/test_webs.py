"""[4]: webs, neighbours, steps."""

import unittest

from comeright.errors import NoNumber, NoSeat, NoWeb
from comeright.webs.webs import MOST_SEATS, is_web, neighbours, steps, steps_to, within
from tests import model
from tests.samples import ALONE, APART, FULL, LINE, ODD, STAR, WEBS, rng_of, some_web, spoiled


class IsWeb(unittest.TestCase):
    def test_webs(self):
        self.assertEqual(MOST_SEATS, 12)
        for web in WEBS:
            self.assertIs(is_web(web), True)

    def test_how_many_seats(self):
        self.assertIs(is_web((0, ())), False)
        self.assertIs(is_web((1, ())), True)
        self.assertIs(is_web((12, ((10, 11),))), True)
        self.assertIs(is_web((13, ())), False)
        self.assertIs(is_web((12, ((10, 12),))), False)

    def test_ties(self):
        for ties in (((1, 0),), ((0, 1), (0, 1)), ((0, 3),), ((1, 1),), ((1, 2), (0, 1)), ((-1, 0),), ((0, 1, 2),), ((0,),)):
            self.assertIs(is_web((3, ties)), False, ties)

    def test_of_anything(self):
        for thing in ODD:
            self.assertIs(is_web(thing), False, thing)
        for thing in spoiled(LINE):
            self.assertIs(is_web(thing), False, thing)


class Steps(unittest.TestCase):
    def test_neighbours(self):
        self.assertEqual(neighbours(LINE, 1), (0, 2))
        self.assertEqual(neighbours(STAR, 3), (0, 1, 2, 4))
        self.assertEqual(neighbours(ALONE, 0), ())
        self.assertEqual(neighbours(APART, 3), ())
        self.assertEqual(neighbours(FULL, 5), (0, 1, 2, 3, 4, 6, 7, 8, 9, 10, 11))

    def test_steps(self):
        self.assertEqual(steps(LINE, 0, 3), 3)
        self.assertEqual(steps(LINE, 3, 0), 3)
        self.assertEqual(steps(LINE, 2, 2), 0)
        self.assertEqual(steps(APART, 0, 2), 1)
        self.assertIsNone(steps(APART, 0, 4))

    def test_steps_to(self):
        self.assertEqual(steps_to(LINE, (0, 3)), (0, 1, 1, 0))
        self.assertEqual(steps_to(LINE, ()), (None, None, None, None))
        self.assertEqual(steps_to(APART, (1, 5)), (1, 0, 1, None, 1, 0))

    def test_within(self):
        self.assertEqual(within(LINE, 1, 0), (1,))
        self.assertEqual(within(LINE, 0, 2), (0, 1, 2))
        self.assertEqual(within(APART, 0, 10 ** 39), (0, 1, 2))

    def test_against_all_ways(self):
        rng = rng_of(4)
        for web in list(WEBS) + [some_web(rng, 12) for _ in range(40)]:
            far = model.far(web)
            seats = range(web[0])
            for s in seats:
                self.assertEqual(neighbours(web, s), tuple(u for u in seats if far[s, u] == 1))
                for u in seats:
                    self.assertEqual(steps(web, s, u), far[s, u])
                for k in range(4):
                    near = tuple(u for u in seats if far[s, u] is not None and far[s, u] <= k)
                    self.assertEqual(within(web, s, k), near)
            some = tuple(s for s in seats if rng.random() < 0.3)
            ways = [[far[s, u] for u in some if far[s, u] is not None] for s in seats]
            self.assertEqual(steps_to(web, some), tuple(min(way, default=None) for way in ways))


class Refused(unittest.TestCase):
    def test_no_web(self):
        for web in ODD + ((13, ()), (2, [(0, 1)])):
            for ask in (
                lambda: neighbours(web, 0), lambda: steps(web, 0, 0), lambda: steps_to(web, ()),
                lambda: within(web, 0, 0), lambda: within(web, None, None),
            ):
                self.assertRaises(NoWeb, ask)

    def test_no_seat(self):
        for seat in ODD + (4,):
            for ask in (
                lambda: neighbours(LINE, seat), lambda: steps(LINE, seat, 0), lambda: steps(LINE, 0, seat),
                lambda: steps(LINE, seat, None), lambda: within(LINE, seat, -1),
            ):
                with self.assertRaises(NoSeat) as told:
                    ask()
                self.assertIs(told.exception.seat, seat)

    def test_no_seats(self):
        for seats in (0, None, [0], (1, 0), (0, 0), (4,), (True,), (0, "1"), (0, None), {}):
            with self.assertRaises(NoSeat) as told:
                steps_to(LINE, seats)
            self.assertIs(told.exception.seat, seats)

    def test_no_number(self):
        for far in (-1, True, None, "1", [], (1,), -(10 ** 39)):
            with self.assertRaises(NoNumber) as told:
                within(LINE, 1, far)
            self.assertIs(told.exception.number, far)
