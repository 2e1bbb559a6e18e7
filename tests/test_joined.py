"""[20]: joined plans."""

import unittest

from comeright.errors import NoPlan, TooLong
from comeright.layers.joined import joined
from comeright.plain.plain import plain_tells
from comeright.plain.reach import reach
from comeright.plans.made import MADE, made_plan
from comeright.plans.plans import is_plan, rounds
from tests.samples import ODD, rng_of, some_plan, some_row, some_term, some_web


class Joined(unittest.TestCase):
    def test_part_by_part(self):
        lower = (("plus", ("word",), ("ties",)), (("least",), ("many", 3)))
        upper = (("if", ("word",), ("low", ("word",), 5), ("times", ("ties",), ("word",))), (("own",), 7))
        self.assertEqual(joined(lower, upper), (
            ("plus", ("word",), ("ties",)),
            (("least",), ("many", 3), ("if", ("own",), ("low", ("own",), 5), ("times", ("ties",), ("own",))), ("own",), 7),
        ))
        self.assertEqual(joined((("word",), ()), (("word",), ())), (("word",), (("own",),)))
        self.assertEqual(joined((3, ()), (4, ())), (3, (4,)))
        self.assertEqual(joined((3, ()), (("ties",), (("sum",),))), (3, (("ties",), ("sum",))))

    def test_six_nexts_and_seven(self):
        for low in range(7):
            for high in range(7):
                lower, upper = made_plan("least", low), made_plan("most", high)
                if low + 1 + high <= 6:
                    self.assertEqual(rounds(joined(lower, upper)), low + 1 + high)
                    continue
                with self.assertRaises(TooLong) as told:
                    joined(lower, upper)
                self.assertEqual(told.exception.many, low + 1 + high)

    def short(self, rng):
        plan = some_plan(rng)
        return (plan[0], plan[1][:2])

    def test_what_they_tell(self):
        rng = rng_of(20)
        for number in range(150):
            web = some_web(rng, 6)
            words, goes = some_row(rng, web[0]), (0,) * web[0]
            lower, upper = self.short(rng), self.short(rng)
            if number % 3 == 0:
                lower, upper = made_plan(rng.choice(MADE), rng.randrange(4)), made_plan(rng.choice(MADE), rng.randrange(3))
            plan = joined(lower, upper)
            self.assertIs(is_plan(plan), True)
            below = plain_tells((lower,), web, words, goes)
            self.assertEqual(plain_tells((plan,), web, words, goes), plain_tells((upper,), web, below, goes))

    def test_how_far_they_reach(self):
        rng = rng_of(201)
        for _ in range(100):
            web = some_web(rng, 6)
            goes = (0,) * web[0]
            lower, upper = self.short(rng), self.short(rng)
            low, high = reach((lower,), web, goes), reach((upper,), web, goes)
            for s, row in enumerate(reach((joined(lower, upper),), web, goes)):
                self.assertEqual(row[-1], low[s][-1] + high[s][-1])

    def test_no_plan(self):
        good = made_plan("least", 3)
        for thing in ODD:
            self.assertRaises(NoPlan, joined, thing, thing)
            self.assertRaises(NoPlan, joined, good, thing)
            self.assertRaises(NoPlan, joined, thing, made_plan("most", 6))
        # What is no plan goes ahead of what is too long.
        self.assertRaises(NoPlan, joined, made_plan("most", 6), (("own",), ()))

    def test_what_is_handed_in_stays(self):
        rng = rng_of(202)
        lower, upper = (some_term(rng, ("word",), 3), ()), (some_term(rng, ("word", "ties"), 3), ())
        before = repr((lower, upper))
        self.assertEqual(joined(lower, upper), joined(lower, upper))
        self.assertEqual(repr((lower, upper)), before)
