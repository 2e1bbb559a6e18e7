"""[8]: how far levels reach, and that they hang on nothing beyond."""

import unittest

from comeright.errors import NoGoes, NoPlans, NoWeb
from comeright.plain.plain import levels
from comeright.plain.reach import reach
from tests import model
from tests.samples import ALONE, APART, LEAST, LINE, MIXED, ODD, PLANS, STILL, WALKS, rng_of, some_parts

HUSH = (("word",), (("plus", ("own",), 1), ("sum",), ("own",), ("most",)))


class Reach(unittest.TestCase):
    def test_each_look_reaches_one_further(self):
        self.assertEqual(reach((LEAST,), LINE, (0,) * 4), ((0, 1, 2, 3),) * 4)

    def test_nexts_that_do_not_look_reach_no_further(self):
        self.assertEqual(reach((HUSH,), LINE, (0,) * 4), ((0, 0, 1, 1, 2),) * 4)
        self.assertEqual(reach((STILL,), LINE, (0,) * 4), ((0,),) * 4)

    def test_a_seat_without_neighbours(self):
        self.assertEqual(reach((LEAST,), ALONE, (0,)), ((0, 0, 0, 0),))
        self.assertEqual(reach((LEAST,), APART, (0,) * 6)[3], (0, 0, 0, 0))

    def test_plans_of_unlike_rounds(self):
        told = reach((LEAST, WALKS, STILL), LINE, (2, 0, 1, 2))
        self.assertEqual(told, ((0, 0, 0, 0), (0, 1, 2, 3), (0, 1, 2, 2), (0, 0, 0, 0)))
        self.assertEqual(reach((LEAST, HUSH), (2, ((0, 1),)), (0, 1)), ((0, 1, 1, 3, 3), (0, 0, 2, 2, 4)))

    def test_a_neighbours_further_reach_is_taken_over(self):
        late = (1, (("own",), ("own",), ("own",), ("sum",)))
        told = reach((WALKS, late), (3, ((0, 1), (1, 2))), (1, 0, 0))
        self.assertEqual(told, ((0, 0, 0, 0, 3), (0, 1, 2, 2, 2), (0, 1, 2, 2, 2)))

    def test_against_the_model(self):
        rng = rng_of(8)
        for _ in range(150):
            plans, web, _, goes = some_parts(rng, 6)
            told = reach(plans, web, goes)
            wide = 1 + max(len(nexts) for _, nexts in plans)
            seats = range(web[0])
            self.assertEqual(
                told, tuple(tuple(model.reach(plans, web, goes, s, i) for i in range(wide)) for s in seats)
            )
            for row in told:
                self.assertEqual(list(row), sorted(row))

    def test_a_level_hangs_on_nothing_beyond(self):
        rng = rng_of(88)
        for _ in range(150):
            plans, web, words, goes = some_parts(rng, 6)
            seat = rng.randrange(web[0])
            far = model.far(web)
            told, before = reach(plans, web, goes), levels(plans, web, words, goes)
            for at, most in enumerate(told[seat]):
                near = [far[seat, u] is not None and far[seat, u] <= most for u in range(web[0])]
                fresh = tuple(word if kept else rng.randrange(997) for word, kept in zip(words, near))
                other = tuple(go if kept else rng.randrange(len(plans)) for go, kept in zip(goes, near))
                self.assertEqual(levels(plans, web, fresh, other)[seat][at], before[seat][at])

    def test_refused(self):
        for thing in ODD:
            self.assertRaises(NoPlans, reach, thing, thing, thing)
            self.assertRaises(NoWeb, reach, PLANS, thing, thing)
            self.assertRaises(NoGoes, reach, PLANS, LINE, thing)
        self.assertRaises(NoGoes, reach, (MIXED,), LINE, (0, 0, 0, 1))
