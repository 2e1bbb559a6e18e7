"""[6]: plans, rounds, width."""

import unittest

from comeright.errors import NoPlan, NoPlans
from comeright.plans.plans import MOST_PLANS, MOST_ROUNDS, is_plan, is_plans, looking, rounds, width
from tests.samples import LEAST, MIXED, ODD, PLANS, STILL, WALKS, spoiled


class Plans(unittest.TestCase):
    def test_rounds(self):
        self.assertEqual((MOST_ROUNDS, MOST_PLANS), (6, 3))
        for many in range(7):
            plan = (1, (("own",),) * many)
            self.assertIs(is_plan(plan), True)
            self.assertEqual(rounds(plan), many)
            self.assertEqual(width((plan,)), many + 1)
        self.assertIs(is_plan((1, (("own",),) * 7)), False)

    def test_first_and_nexts(self):
        self.assertIs(is_plan((("own",), ())), False)
        self.assertIs(is_plan((("word",), (("own",), ("word",)))), False)
        self.assertIs(is_plan((("word",), ("own",))), False)
        self.assertIs(is_plan((("word",),)), False)
        self.assertIs(is_plan((("word",), (), ())), False)

    def test_plans(self):
        self.assertIs(is_plans((STILL,)), True)
        self.assertIs(is_plans(PLANS), True)
        self.assertIs(is_plans((STILL, STILL, STILL)), True)
        self.assertIs(is_plans(()), False)
        self.assertIs(is_plans((STILL,) * 4), False)
        self.assertIs(is_plans(STILL), False)

    def test_width(self):
        self.assertEqual(width(PLANS), 4)
        self.assertEqual(width((STILL,)), 1)
        self.assertEqual(width((STILL, MIXED)), 7)
        self.assertEqual(width((WALKS, STILL, LEAST)), 4)

    def test_looking(self):
        self.assertEqual(looking(MIXED), (0, 2, 4))
        self.assertEqual(looking(STILL), ())
        self.assertEqual(looking(LEAST), (0, 1, 2))

    def test_of_anything(self):
        for thing in ODD:
            self.assertIs(is_plan(thing), False, thing)
            self.assertIs(is_plans(thing), False, thing)
            self.assertRaises(NoPlan, rounds, thing)
            self.assertRaises(NoPlan, looking, thing)
            self.assertRaises(NoPlans, width, thing)
        plan = (("plus", ("word",), ("ties",)), (("least",), ("many", 3)))
        for thing in spoiled(plan):
            self.assertIs(is_plan(thing), False, thing)
        for thing in spoiled((plan, STILL)):
            self.assertIs(is_plans(thing), False, thing)
