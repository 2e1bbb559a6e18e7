"""[7]: words, goes, levels of the plain run, what is told."""

import unittest

from comeright.errors import NoGoes, NoPlans, NoWeb, NoWords
from comeright.plain.plain import is_goes, is_words, levels, plain_tells
from tests import model
from tests.samples import ALONE, LEAST, LINE, MIXED, ODD, PLANS, STAR, STILL, WALKS, rng_of, some_parts, spoiled


class Handed(unittest.TestCase):
    def test_words(self):
        self.assertIs(is_words(LINE, (0, 996, 1, 2)), True)
        for thing in ((0, 1, 2), (0, 1, 2, 3, 4), (), (0, 1, 2, 997), (0, 1, 2, -1), (0, True, 2, 3), [0, 1, 2, 3]):
            self.assertIs(is_words(LINE, thing), False, thing)
        for thing in tuple(spoiled((0, 996, 1, 2))) + ODD:
            self.assertIs(is_words(LINE, thing), False)

    def test_goes(self):
        self.assertIs(is_goes(PLANS, LINE, (0, 1, 2, 0)), True)
        for thing in ((0, 1, 2), (0, 1, 2, 0, 0), (), (0, 1, 2, 3), (0, 1, -1, 0), (0, True, 2, 0), [0, 1, 2, 0]):
            self.assertIs(is_goes(PLANS, LINE, thing), False, thing)
        self.assertIs(is_goes((STILL,), LINE, (0, 0, 0, 1)), False)
        for thing in tuple(spoiled((0, 1, 2, 0))) + ODD:
            self.assertIs(is_goes(PLANS, LINE, thing), False)

    def test_of_no_web_and_no_plans(self):
        for thing in ODD:
            self.assertRaises(NoWeb, is_words, thing, None)
            self.assertRaises(NoPlans, is_goes, thing, thing, None)
            self.assertRaises(NoWeb, is_goes, PLANS, thing, None)


class Levels(unittest.TestCase):
    def test_least(self):
        told = levels((LEAST,), LINE, (5, 9, 3, 7), (0,) * 4)
        self.assertEqual(told, ((5, 5, 3, 3), (9, 3, 3, 3), (3, 3, 3, 3), (7, 3, 3, 3)))
        self.assertEqual(plain_tells((LEAST,), LINE, (5, 9, 3, 7), (0,) * 4), (3, 3, 3, 3))

    def test_walks(self):
        self.assertEqual(levels((WALKS,), STAR, (0,) * 5, (0,) * 5)[3], (1, 4, 4))
        self.assertEqual(levels((WALKS,), ALONE, (0,), (0,)), ((1, 0, 0),))

    def test_levels_that_a_plan_lacks_are_0_and_looked_at_as_0(self):
        told = levels(PLANS, LINE, (5, 9, 3, 7), (1, 2, 1, 0))
        self.assertEqual(told, ((1, 11, 0, 0), (11, 0, 0, 0), (1, 18, 1, 0), (7, 1, 1, 1)))
        self.assertEqual(plain_tells(PLANS, LINE, (5, 9, 3, 7), (1, 2, 1, 0)), (0, 11, 1, 1))

    def test_least_of_a_shorter_neighbour_is_0(self):
        self.assertEqual(levels((LEAST, STILL), (2, ((0, 1),)), (8, 6), (0, 1))[0], (8, 7, 0, 0))

    def test_plans_without_nexts(self):
        self.assertEqual(levels((STILL,), LINE, (996, 1, 2, 3), (0,) * 4), ((0,), (3,), (4,), (4,)))
        self.assertEqual(plain_tells((STILL,), LINE, (996, 1, 2, 3), (0,) * 4), (0, 3, 4, 4))

    def test_against_the_model(self):
        rng = rng_of(7)
        for _ in range(120):
            plans, web, words, goes = some_parts(rng, 6)
            told = levels(plans, web, words, goes)
            self.assertEqual(told, model.run(plans, web, words, goes))
            last = tuple(row[len(plans[number][1])] for row, number in zip(told, goes))
            self.assertEqual(plain_tells(plans, web, words, goes), last)

    def test_refused(self):
        for ask in (levels, plain_tells):
            for thing in ODD:
                self.assertRaises(NoPlans, ask, thing, thing, thing, thing)
                self.assertRaises(NoWeb, ask, (MIXED,), thing, thing, thing)
                self.assertRaises(NoWords, ask, (MIXED,), LINE, thing, thing)
                self.assertRaises(NoGoes, ask, (MIXED,), LINE, (0, 0, 0, 0), thing)
            self.assertRaises(NoWords, ask, (MIXED,), LINE, (0, 0, 0), (0, 0, 0))
            self.assertRaises(NoGoes, ask, (MIXED,), LINE, (0, 0, 0, 0), (0, 0, 0))
            self.assertRaises(NoGoes, ask, (MIXED,), LINE, (0, 0, 0, 0), (0, 0, 0, 1))
