"""[22]: tables, standings, views, moves."""

import unittest

from itertools import combinations

from comeright.errors import NoSeat, NoStanding, NoTable
from comeright.tables.rising import RISING, WITHOUT
from comeright.tables.tables import MOST_STANDINGS, able_seats, is_standing, is_table, moves, standings, view
from tests import tables
from tests.samples import ODD, deep, rng_of, spoiled
from tests.tables import COPY, ROUND, STILL, made, near_tables, some_table


class Tables(unittest.TestCase):
    def test_tables(self):
        for table in (ROUND, COPY, STILL):
            self.assertIs(is_table(table), True)
        rng = rng_of(22)
        for _ in range(60):
            self.assertIs(is_table(some_table(rng)), True)

    def test_near_tables(self):
        for thing in near_tables():
            self.assertIs(is_table(thing), False, thing)
        for thing in spoiled(COPY):
            self.assertIs(is_table(thing), False, thing)
        for thing in ODD:
            self.assertIs(is_table(thing), False)

    def test_sizes(self):
        for size in range(2, 10):
            self.assertIs(is_table((size, (((), ((),) * size),))), True)
            self.assertIs(is_table((size, (((), ((),) * (size + 1)),))), False)
            self.assertIs(is_table((size, (((), ((),) * (size - 1)),))), False)
        self.assertIs(is_table((1, (((), ((),)),))), False)
        self.assertIs(is_table((10, (((), ((),) * 10),))), False)

    def test_how_many_standings(self):
        self.assertEqual(MOST_STANDINGS, 729)
        for size in range(2, 10):
            for many in range(1, 8):
                table = (size, (((), ((),) * size),) * many)
                well = many <= 6 and size ** many <= 729
                self.assertIs(is_table(table), well, (size, many))
                if well:
                    self.assertEqual(len(standings(table)), size ** many)
        self.assertEqual(len(standings((3, (((), ((),) * 3),) * 6))), 729)
        self.assertEqual(len(standings((9, (((), ((),) * 9),) * 3))), 729)
        self.assertIs(is_table((4, (((), ((),) * 4),) * 5)), False)

    def test_looks_in_any_order(self):
        for looks in ((1, 2, 3), (3, 1, 2), (2,), (), (3, 2, 1)):
            table = made(2, (looks, (), (), ()), lambda seat, row: ())
            self.assertIs(is_table(table), True)
        for looks in ((1, 2, 1), (0, 1), (1, 4), (1, 2, 3, 1)):
            table = (2, ((looks, ((),) * 2 ** (1 + len(looks))),) + (((), ((), ())),) * 3)
            self.assertIs(is_table(table), False, looks)
        five = made(2, ((5, 3, 1, 2, 4), (), (), (), (), ()), lambda seat, row: ())
        self.assertIs(is_table(five), True)

    def test_moves_of_a_view(self):
        self.assertIs(is_table((9, (((), tuple(tuple(m for m in range(9) if m != k) for k in range(9))),))), True)
        self.assertIs(is_table((9, (((), (tuple(range(9)),) + ((),) * 8),))), False)
        # Its own mark is the first of its view, whatever it looks at.
        self.assertIs(is_table((2, (((1,), ((1,), (1,), (0,), (0,))), ((), ((), ()))))), True)
        self.assertIs(is_table((2, (((1,), ((1,), (0,), (1,), (0,))), ((), ((), ()))))), False)

    def test_standings(self):
        self.assertEqual(standings(ROUND), ((0,), (1,), (2,)))
        self.assertEqual(standings(COPY), ((0, 0), (0, 1), (1, 0), (1, 1)))
        rng = rng_of(221)
        for _ in range(20):
            table = some_table(rng)
            self.assertEqual(standings(table), tuple(tables.all_standings(table)))

    def test_is_standing(self):
        for standing in standings(COPY):
            self.assertIs(is_standing(COPY, standing), True)
        for thing in ODD + ((0, 2), (0,), (0, 1, 0), [0, 1], (0, True), (False, 0), (-1, 0), (None, 0), ((0,), 0), "01", ((0, 1),)):
            if thing != (0, 0):
                self.assertIs(is_standing(COPY, thing), False, thing)


def shapes():
    return [(size, many) for size in range(2, 10) for many in range(1, 7) if size ** many <= 729]


def rules(rng, size):
    """What seats may move to: all other marks, one of them, those by chance, none but now and then, those of the own mark."""
    by_own = [[mark for mark in range(size) if rng.random() < 0.5] for _ in range(size)]
    pool = [[mark for mark in range(size) if rng.random() < 0.5] for _ in range(4)]
    return (
        lambda seat, view: range(size), lambda seat, view: [(view[0] + 1) % size], lambda seat, view: [sum(view) % size],
        lambda seat, view: [mark for mark in range(size) if rng.random() < 0.5], lambda seat, view: (),
        lambda seat, view: [rng.randrange(size)] if rng.random() < 0.05 else [], lambda seat, view: by_own[view[0]],
        lambda seat, view: rng.choice(pool),
    )


def near_marks(rng, size, own, marks):
    """Things that are like a row of marks, but often none."""
    at = rng.randrange(len(marks) + 1)
    other = rng.choice((0, 1, own, size - 1, size, size + 1, -1, 9, 10 ** 39, True, False, None, "", "1", (), (1,), [], [1], {}, {1: 1}))
    yield marks[:at] + (other,) + marks[at:]
    yield marks[:at] + (other,) + marks[at + 1:]
    yield from (marks + marks[-1:], marks[::-1], list(marks), marks[1:], marks[:-1], None, "", "01", 0, True, {}, dict.fromkeys(marks))
    yield tuple(bool(mark) if mark < 2 else mark for mark in marks)
    yield tuple(range(size))
    yield tuple(mark for mark in range(size) if mark != own)
    yield (deep(lambda told: ("plus", told, told), 30),)
    yield deep(lambda told: [told, told], 30)


class ManyRows(unittest.TestCase):
    """Rows that are all alike, or one of a few, or many unlike ones, are looked through in ways of their own."""

    def test_all_rising_rows(self):
        rows = [row for many in range(10) for row in combinations(range(9), many)]
        self.assertEqual(RISING, {row: sum(2 ** mark for mark in row) for row in rows})
        self.assertEqual(sorted(WITHOUT), [2, 3, 4])
        for size, told in WITHOUT.items():
            for own, well in enumerate(told):
                self.assertEqual(sorted(well), sorted(row for row in rows if own not in row and all(mark < size for mark in row)))
            self.assertEqual(len(told), size)

    def test_of_each_shape(self):
        rng = rng_of(13)
        for size, many in shapes():
            for rule in rules(rng, size):
                looks = [[other for other in range(many) if other != seat][:rng.choice((1, 2, 5, 5))] for seat in range(many)]
                table = made(size, looks, rule)
                self.assertIs(is_table(table), True)
                self.assertIs(tables.is_table(table), True)

    def test_with_one_row_spoiled(self):
        rng = rng_of(131)
        told = []
        for size, many in shapes() * 2:
            for rule in rules(rng, size):
                looks = [[other for other in range(many) if other != seat][:rng.choice((1, 2, 5))] for seat in range(many)]
                table = made(size, looks, rule)
                seat = rng.randrange(many)
                row, moves = table[1][seat]
                alike = len(moves) // size
                for at in {0, alike - 1, len(moves) - 1, rng.randrange(len(moves)), rng.randrange(len(moves))}:
                    for thing in rng.sample(list(near_marks(rng, size, at // alike, moves[at])), 4):
                        near = (row, moves[:at] + (thing,) + moves[at + 1:])
                        other = (size, table[1][:seat] + (near,) + table[1][seat + 1:])
                        told.append(is_table(other))
                        self.assertIs(told[-1], tables.is_table(other), (size, at, thing))
        self.assertGreater(min(told.count(True), told.count(False)), 200)

    def test_a_truth_in_each_place(self):
        for size, rule in ((2, lambda seat, view: (0, 1)), (3, lambda seat, view: range(3)), (4, lambda seat, view: range(4)),
                           (3, lambda seat, view: [sum(view) % 3]), (5, lambda seat, view: range(5)), (6, lambda seat, view: (0, 1, view[-1]))):
            table = made(size, ((1, 2), (0, 2), (0, 1)), rule)
            self.assertIs(is_table(table), True)
            for seat, (looks, moves) in enumerate(table[1]):
                for at, marks in enumerate(moves):
                    for place, mark in enumerate(marks):
                        if mark < 2:
                            sly = marks[:place] + (mark == 1,) + marks[place + 1:]
                            self.assertEqual(sly, marks)
                            near = (looks, moves[:at] + (sly,) + moves[at + 1:])
                            self.assertIs(is_table((size, table[1][:seat] + (near,) + table[1][seat + 1:])), False)


class Asked(unittest.TestCase):
    def test_views_and_moves(self):
        table = made(3, ((2, 1), (0,), ()), lambda seat, row: [sum(row) % 3, (row[-1] + 1) % 3])
        self.assertEqual(view(table, 0, (0, 1, 2)), (0, 2, 1))
        self.assertEqual(view(table, 1, (0, 1, 2)), (1, 0))
        self.assertEqual(view(table, 2, (0, 1, 2)), (2,))
        self.assertEqual(moves(table, 0, (0, 1, 2)), (2,))
        self.assertEqual(moves(table, 1, (0, 1, 2)), ())
        self.assertEqual(moves(table, 2, (0, 1, 2)), (0,))
        self.assertEqual(able_seats(table, (0, 1, 2)), (0, 2))

    def test_able_seats(self):
        self.assertEqual([able_seats(COPY, standing) for standing in standings(COPY)], [(), (0, 1), (0, 1), ()])
        self.assertEqual(able_seats(STILL, (0,) * 6), ())
        self.assertEqual(able_seats(ROUND, (2,)), (0,))

    def test_against_the_model(self):
        rng = rng_of(222)
        for _ in range(40):
            table = some_table(rng)
            for standing in rng.sample(standings(table), min(12, len(standings(table)))):
                self.assertIs(is_standing(table, standing), True)
                told = []
                for seat in range(len(table[1])):
                    self.assertEqual(view(table, seat, standing), tables.view(table, seat, standing))
                    told.append(tables.moves(table, seat, standing))
                    self.assertEqual(moves(table, seat, standing), told[-1])
                self.assertEqual(able_seats(table, standing), tuple(seat for seat, row in enumerate(told) if row))


class Refused(unittest.TestCase):
    def test_no_table(self):
        for thing in list(ODD) + list(near_tables()):
            for ask in (standings, lambda table: is_standing(table, thing), lambda table: able_seats(table, thing),
                        lambda table: view(table, thing, thing), lambda table: moves(table, thing, thing)):
                self.assertRaises(NoTable, ask, thing)

    def test_no_seat_then_no_standing(self):
        for ask in (view, moves):
            for seat in (2, -1, True, None, "0", (0,), [], 10 ** 39):
                for standing in ((0, 1), (0, 2), None):
                    with self.assertRaises(NoSeat) as told:
                        ask(COPY, seat, standing)
                    self.assertIs(told.exception.seat, seat)
            for standing in ODD + ((0, 2), (0,), (0, 1, 0), [0, 1], (0, True), (-1, 0)):
                if standing != (0, 0):
                    self.assertRaises(NoStanding, ask, COPY, 1, standing)
                    self.assertRaises(NoStanding, able_seats, COPY, standing)

    def test_what_is_handed_in_stays(self):
        before = repr((COPY, ROUND))
        for table in (COPY, ROUND):
            for standing in standings(table):
                self.assertEqual(moves(table, 0, standing), moves(table, 0, standing))
                self.assertEqual(able_seats(table, standing), able_seats(table, standing))
        self.assertEqual(repr((COPY, ROUND)), before)
