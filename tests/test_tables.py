"""[22]: tables, standings, views, moves."""

import unittest

from comeright.errors import NoSeat, NoStanding, NoTable
from comeright.tables.tables import MOST_STANDINGS, able_seats, is_standing, is_table, moves, standings, view
from tests import tables
from tests.samples import ODD, rng_of, spoiled
from tests.tables import COPY, ROUND, STILL, made, near_tables, some_table


class Tables(unittest.TestCase):
    def test_tables(self):
        for table in (ROUND, COPY, STILL):
            self.assertIs(is_table(table), True)
        rng = rng_of(22)
        for _ in range(60):
            self.assertIs(is_table(some_table(rng)), True)

    def test_near_tables(self):
        for thing in near_tables():
            self.assertIs(is_table(thing), False, thing)
        for thing in spoiled(COPY):
            self.assertIs(is_table(thing), False, thing)
        for thing in ODD:
            self.assertIs(is_table(thing), False)

    def test_sizes(self):
        for size in range(2, 10):
            self.assertIs(is_table((size, (((), ((),) * size),))), True)
            self.assertIs(is_table((size, (((), ((),) * (size + 1)),))), False)
            self.assertIs(is_table((size, (((), ((),) * (size - 1)),))), False)
        self.assertIs(is_table((1, (((), ((),)),))), False)
        self.assertIs(is_table((10, (((), ((),) * 10),))), False)

    def test_how_many_standings(self):
        self.assertEqual(MOST_STANDINGS, 729)
        for size in range(2, 10):
            for many in range(1, 8):
                table = (size, (((), ((),) * size),) * many)
                well = many <= 6 and size ** many <= 729
                self.assertIs(is_table(table), well, (size, many))
                if well:
                    self.assertEqual(len(standings(table)), size ** many)
        self.assertEqual(len(standings((3, (((), ((),) * 3),) * 6))), 729)
        self.assertEqual(len(standings((9, (((), ((),) * 9),) * 3))), 729)
        self.assertIs(is_table((4, (((), ((),) * 4),) * 5)), False)

    def test_looks_in_any_order(self):
        for looks in ((1, 2, 3), (3, 1, 2), (2,), (), (3, 2, 1)):
            table = made(2, (looks, (), (), ()), lambda seat, row: ())
            self.assertIs(is_table(table), True)
        for looks in ((1, 2, 1), (0, 1), (1, 4), (1, 2, 3, 1)):
            table = (2, ((looks, ((),) * 2 ** (1 + len(looks))),) + (((), ((), ())),) * 3)
            self.assertIs(is_table(table), False, looks)
        five = made(2, ((5, 3, 1, 2, 4), (), (), (), (), ()), lambda seat, row: ())
        self.assertIs(is_table(five), True)

    def test_moves_of_a_view(self):
        self.assertIs(is_table((9, (((), tuple(tuple(m for m in range(9) if m != k) for k in range(9))),))), True)
        self.assertIs(is_table((9, (((), (tuple(range(9)),) + ((),) * 8),))), False)
        # Its own mark is the first of its view, whatever it looks at.
        self.assertIs(is_table((2, (((1,), ((1,), (1,), (0,), (0,))), ((), ((), ()))))), True)
        self.assertIs(is_table((2, (((1,), ((1,), (0,), (1,), (0,))), ((), ((), ()))))), False)

    def test_standings(self):
        self.assertEqual(standings(ROUND), ((0,), (1,), (2,)))
        self.assertEqual(standings(COPY), ((0, 0), (0, 1), (1, 0), (1, 1)))
        rng = rng_of(221)
        for _ in range(20):
            table = some_table(rng)
            self.assertEqual(standings(table), tuple(tables.all_standings(table)))

    def test_is_standing(self):
        for standing in standings(COPY):
            self.assertIs(is_standing(COPY, standing), True)
        for thing in ODD + ((0, 2), (0,), (0, 1, 0), [0, 1], (0, True), (False, 0), (-1, 0), (None, 0), ((0,), 0), "01", ((0, 1),)):
            if thing != (0, 0):
                self.assertIs(is_standing(COPY, thing), False, thing)


class Asked(unittest.TestCase):
    def test_views_and_moves(self):
        table = made(3, ((2, 1), (0,), ()), lambda seat, row: [sum(row) % 3, (row[-1] + 1) % 3])
        self.assertEqual(view(table, 0, (0, 1, 2)), (0, 2, 1))
        self.assertEqual(view(table, 1, (0, 1, 2)), (1, 0))
        self.assertEqual(view(table, 2, (0, 1, 2)), (2,))
        self.assertEqual(moves(table, 0, (0, 1, 2)), (2,))
        self.assertEqual(moves(table, 1, (0, 1, 2)), ())
        self.assertEqual(moves(table, 2, (0, 1, 2)), (0,))
        self.assertEqual(able_seats(table, (0, 1, 2)), (0, 2))

    def test_able_seats(self):
        self.assertEqual([able_seats(COPY, standing) for standing in standings(COPY)], [(), (0, 1), (0, 1), ()])
        self.assertEqual(able_seats(STILL, (0,) * 6), ())
        self.assertEqual(able_seats(ROUND, (2,)), (0,))

    def test_against_the_model(self):
        rng = rng_of(222)
        for _ in range(40):
            table = some_table(rng)
            for standing in rng.sample(standings(table), min(12, len(standings(table)))):
                self.assertIs(is_standing(table, standing), True)
                told = []
                for seat in range(len(table[1])):
                    self.assertEqual(view(table, seat, standing), tables.view(table, seat, standing))
                    told.append(tables.moves(table, seat, standing))
                    self.assertEqual(moves(table, seat, standing), told[-1])
                self.assertEqual(able_seats(table, standing), tuple(seat for seat, row in enumerate(told) if row))


class Refused(unittest.TestCase):
    def test_no_table(self):
        for thing in list(ODD) + list(near_tables()):
            for ask in (standings, lambda table: is_standing(table, thing), lambda table: able_seats(table, thing),
                        lambda table: view(table, thing, thing), lambda table: moves(table, thing, thing)):
                self.assertRaises(NoTable, ask, thing)

    def test_no_seat_then_no_standing(self):
        for ask in (view, moves):
            for seat in (2, -1, True, None, "0", (0,), [], 10 ** 39):
                for standing in ((0, 1), (0, 2), None):
                    with self.assertRaises(NoSeat) as told:
                        ask(COPY, seat, standing)
                    self.assertIs(told.exception.seat, seat)
            for standing in ODD + ((0, 2), (0,), (0, 1, 0), [0, 1], (0, True), (-1, 0)):
                if standing != (0, 0):
                    self.assertRaises(NoStanding, ask, COPY, 1, standing)
                    self.assertRaises(NoStanding, able_seats, COPY, standing)

    def test_what_is_handed_in_stays(self):
        before = repr((COPY, ROUND))
        for table in (COPY, ROUND):
            for standing in standings(table):
                self.assertEqual(moves(table, 0, standing), moves(table, 0, standing))
                self.assertEqual(able_seats(table, standing), able_seats(table, standing))
        self.assertEqual(repr((COPY, ROUND)), before)
