"""[23]: movers, nexts, walks."""

import unittest

from comeright.errors import NoMovers, NoStanding, NoTable
from comeright.tables.movers import MOVERS, is_walk, nexts
from comeright.tables.tables import able_seats, standings
from tests import tables
from tests.samples import ODD, rng_of
from tests.tables import COPY, ROUND, STILL, made, near_tables, some_table

# Three seats, each of which may move to each other mark, but 1 may not from 2.
WIDE = made(3, ((), (), (0,)), lambda seat, view: () if seat == 1 and view[0] == 2 else range(3))


class Nexts(unittest.TestCase):
    def test_by_each(self):
        self.assertEqual(MOVERS, ("one", "some", "all", "turn"))
        both = ((0, 0), (1, 1))
        for standing in ((0, 1), (1, 0)):
            swapped = (standing[1], standing[0])
            self.assertEqual(nexts(COPY, standing, "one"), both)
            self.assertEqual(nexts(COPY, standing, "turn"), both)
            self.assertEqual(nexts(COPY, standing, "all"), (swapped,))
            self.assertEqual(nexts(COPY, standing, "some"), tuple(sorted(both + (swapped,))))

    def test_where_nobody_is_able(self):
        for movers in MOVERS:
            for standing in ((0, 0), (1, 1)):
                self.assertEqual(nexts(COPY, standing, movers), ())
            self.assertEqual(nexts(STILL, (0, 1, 0, 1, 0, 1), movers), ())

    def test_where_one_is_able(self):
        for movers in MOVERS:
            self.assertEqual([nexts(ROUND, (mark,), movers) for mark in range(3)], [((1,),), ((2,),), ((0,),)])

    def test_how_many(self):
        for standing in standings(WIDE):
            able = len(able_seats(WIDE, standing))
            self.assertEqual(able, 2 if standing[1] == 2 else 3)
            self.assertEqual(len(nexts(WIDE, standing, "one")), 2 * able)
            self.assertEqual(len(nexts(WIDE, standing, "all")), 2 ** able)
            self.assertEqual(len(nexts(WIDE, standing, "some")), 3 ** able - 1)
        full = made(3, ((),) * 6, lambda seat, view: range(3))
        self.assertEqual(len(nexts(full, (0,) * 6, "some")), 728)
        self.assertEqual(nexts(full, (0,) * 6, "some"), standings(full)[1:])
        self.assertEqual(nexts(full, (1,) * 6, "all")[0], (0,) * 6)

    def test_all_look_at_the_standing_as_it_is(self):
        # Each takes the mark of the one ahead of it: all at once turn the ring.
        ring = made(4, ((2,), (0,), (1,)), lambda seat, view: (view[1],))
        self.assertEqual(nexts(ring, (0, 1, 2), "all"), ((2, 0, 1),))
        self.assertEqual(nexts(ring, (0, 1, 2), "one"), ((0, 0, 2), (0, 1, 1), (2, 1, 2)))
        self.assertEqual(nexts(ring, (3, 3, 1), "all"), ((1, 3, 3),))

    def test_each_told_once_and_rising(self):
        rng = rng_of(23)
        for _ in range(40):
            table = some_table(rng, 243)
            for standing in rng.sample(standings(table), min(10, len(standings(table)))):
                for movers in MOVERS:
                    told = nexts(table, standing, movers)
                    self.assertEqual(told, tables.nexts(table, standing, movers))
                    self.assertEqual(nexts(table, standing, movers), told)
                self.assertTrue(set(nexts(table, standing, "one")) <= set(nexts(table, standing, "some")))
                self.assertTrue(set(nexts(table, standing, "all")) <= set(nexts(table, standing, "some")))
                self.assertEqual(nexts(table, standing, "one"), nexts(table, standing, "turn"))


class Walks(unittest.TestCase):
    def test_walks(self):
        for movers in MOVERS:
            self.assertIs(is_walk(ROUND, movers, ((0,),)), True)
            self.assertIs(is_walk(ROUND, movers, ((0,), (1,), (2,), (0,), (1,))), True)
            self.assertIs(is_walk(COPY, movers, ((1, 1),)), True)
            for walk in (((0,), (2,)), ((0,), (0,)), ((0,), (1,), (1,)), ((1,), (0,))):
                self.assertIs(is_walk(ROUND, movers, walk), False)
            self.assertIs(is_walk(COPY, movers, ((1, 1), (1, 1))), False)
            self.assertIs(is_walk(COPY, movers, ((1, 1), (1, 0))), False)
        self.assertIs(is_walk(COPY, "all", ((0, 1), (1, 0), (0, 1))), True)
        self.assertIs(is_walk(COPY, "some", ((0, 1), (1, 0), (1, 1))), True)
        self.assertIs(is_walk(COPY, "one", ((0, 1), (1, 0))), False)
        self.assertIs(is_walk(COPY, "all", ((0, 1), (1, 1))), False)
        self.assertIs(is_walk(COPY, "turn", ((0, 1), (1, 1))), True)

    def test_near_walks(self):
        for movers in MOVERS:
            for thing in (
                (), [(0,), (1,)], ([0], [1]), ((0,), [1]), ((0,), (True,)), ((False,), (1,)), ((0,), (3,)), ((0,), ()), (0,),
                (0, 1), ((0, 1),), ((0,), None), ((0,), (1,), (-1,)), {(0,): (1,)}, ((None,),), (((0,),),), ((3,),), "0",
            ):
                self.assertIs(is_walk(ROUND, movers, thing), False, thing)
            for thing in ODD:
                self.assertIs(is_walk(ROUND, movers, thing), False)

    def test_against_the_model(self):
        rng = rng_of(231)
        seen = []
        for _ in range(30):
            table = some_table(rng, 81)
            for movers in MOVERS:
                walk = (rng.choice(standings(table)),)
                for _ in range(6):
                    told = tables.nexts(table, walk[-1], movers)
                    if not told:
                        break
                    walk += (rng.choice(told),)
                self.assertIs(is_walk(table, movers, walk), True)
                for _ in range(12):
                    other = rng.choice(standings(table))
                    seen.append(other in tables.nexts(table, walk[-1], movers))
                    self.assertIs(is_walk(table, movers, walk + (other,)), seen[-1])
                    self.assertIs(is_walk(table, movers, (walk[-1], other)), seen[-1])
        self.assertGreater(min(seen.count(True), seen.count(False)), 100)

    def test_long_walks(self):
        walk = tuple((k % 3,) for k in range(3000))
        self.assertIs(is_walk(ROUND, "some", walk), True)
        self.assertIs(is_walk(ROUND, "some", walk + ((2,),)), False)


class Refused(unittest.TestCase):
    def test_no_table_first(self):
        for thing in list(ODD) + list(near_tables()):
            self.assertRaises(NoTable, nexts, thing, thing, thing)
            self.assertRaises(NoTable, is_walk, thing, thing, thing)

    def test_no_standing_then_no_movers(self):
        for thing in ODD + ((0, 2), (0,), (0, 1, 0), [0, 1], (0, True)):
            if thing != (0, 0):
                for movers in ("one", "none", None):
                    self.assertRaises(NoStanding, nexts, COPY, thing, movers)
        for movers in ODD + ("One", "on", "one ", ("one",), ["all"], MOVERS, "any"):
            self.assertRaises(NoMovers, nexts, COPY, (0, 1), movers)
            for walk in (((0, 1),), (), None):
                self.assertRaises(NoMovers, is_walk, COPY, movers, walk)

    def test_what_is_handed_in_stays(self):
        before = repr((COPY, WIDE))
        for movers in MOVERS:
            for standing in standings(WIDE):
                nexts(WIDE, standing, movers)
            is_walk(COPY, movers, ((0, 1), (1, 1)))
        self.assertEqual(repr((COPY, WIDE)), before)
