"""[30]: lots, and who binds them."""

import unittest

from comeright.cases.lots import binders, lots
from comeright.cases.verdicts import comes_right
from comeright.errors import NoCase, NoLot
from comeright.tables.movers import nexts
from comeright.tables.tables import standings
from tests import cases
from tests.cases import DOWN, GRAY, ROUND_ALL, some_case
from tests.samples import ODD, rng_of
from tests.tables import COPY, ROUND, STILL
from tests.test_cases import STEP, TWO_ROUND, near_cases

LOOSE = (STEP, ((0, 0), (1, 0)), "turn")


class Lots(unittest.TestCase):
    def test_by_hand(self):
        self.assertEqual(lots(LOOSE), (((0, 1), (1, 1)),))
        self.assertEqual(binders(LOOSE, ((0, 1), (1, 1))), (1,))
        self.assertEqual(lots((COPY, ((0, 0), (1, 1)), "turn")), (((0, 1),), ((1, 0),)))
        self.assertEqual(binders((COPY, ((0, 0), (1, 1)), "turn"), ((1, 0),)), (0, 1))
        self.assertEqual(lots((COPY, (), "turn")), (((0, 0),), ((0, 1),), ((1, 0),), ((1, 1),)))
        self.assertEqual(binders((COPY, (), "turn"), ((0, 0),)), ())
        self.assertEqual(lots((ROUND, (), "turn")), (((0,), (1,), (2,)),))
        self.assertEqual(binders((ROUND, (), "turn"), ((0,), (1,), (2,))), ())
        self.assertEqual(lots((ROUND, ((1,),), "turn")), (((0,),), ((2,),)))
        self.assertEqual(lots((ROUND, ((0,), (1,), (2,)), "turn")), ())
        self.assertEqual(lots((TWO_ROUND, (), "turn")), (standings(TWO_ROUND),))
        self.assertEqual(len(lots((STILL, (), "turn"))), 64)

    def test_against_the_model(self):
        rng = rng_of(30)
        many = 0
        for _ in range(150):
            case = some_case(rng, 64, "turn")
            before = repr(case)
            told = lots(case)
            self.assertEqual(told, cases.lots(case))
            for lot in told:
                self.assertEqual(binders(case, lot), cases.binders(case, lot))
                many += len(lot) > 1
            self.assertEqual(lots(case), told)
            self.assertEqual(repr(case), before)
        self.assertGreater(many, 50)

    def test_comes_right_just_where_all_are_bound(self):
        rng = rng_of(301)
        told = []
        for _ in range(200):
            case = some_case(rng, 64, "turn")
            table, right, _ = case
            stuck = any(not nexts(table, standing, "turn") for standing in cases.wrong_of(case))
            left = any(later not in right for standing in right for later in nexts(table, standing, "turn"))
            bound = all(binders(case, lot) for lot in lots(case))
            told.append(not stuck and not left and bound)
            self.assertIs(comes_right(case), told[-1])
        self.assertGreater(min(told.count(True), told.count(False)), 30)

    def test_729_in_one_and_each_alone(self):
        self.assertEqual(lots((ROUND_ALL, (), "turn")), (standings(ROUND_ALL),))
        self.assertEqual(binders((ROUND_ALL, (), "turn"), standings(ROUND_ALL)), ())
        self.assertEqual(lots((DOWN, (), "turn")), tuple((standing,) for standing in standings(DOWN)))
        for at in (0, 5, 700, 728):
            seats = tuple(seat for seat in range(6) if at < 728 and GRAY[at][seat] != GRAY[at + 1][seat])
            self.assertEqual(binders((DOWN, (), "turn"), (GRAY[at],)), seats)


class Refused(unittest.TestCase):
    def test_other_movers_and_no_case(self):
        for thing in list(ODD) + list(near_cases()) + [LOOSE[:2] + (movers,) for movers in ("one", "some", "all")]:
            self.assertRaises(NoCase, lots, thing)
            for lot in (((0, 1), (1, 1)), None):
                self.assertRaises(NoCase, binders, thing, lot)

    def test_no_lot(self):
        lot = ((0, 1), (1, 1))
        for thing in ODD + (
            lot[::-1], lot[:1], lot + lot, list(lot), ([0, 1], (1, 1)), ((False, 1), (1, 1)), ((0, 1), (1, True)), ((0, 0), (1, 0)),
            ((0, 0),), lot + ((1, 0),), (lot,), ((0, 1), (1, 2)), ((0, 1), None), ((0, 1, 0), (1, 1)), lot[1:],
        ):
            self.assertRaises(NoLot, binders, LOOSE, thing)
