"""[32]: rings, hues, seats alone, tops."""

import unittest

from comeright.cases.verdicts import comes_right, is_case
from comeright.errors import NoMovers, NoNumber, NoSeat, NoTable, NoWeb
from comeright.made.written import alone, hues, ring, tops
from comeright.tables.tables import able_seats, is_table, standings
from tests import model, tables
from tests.cases import MOVERS
from tests.samples import FULL, ODD, rng_of, some_web, spoiled

PATH = (3, ((0, 1), (1, 2)))
LOOSE = (4, ((0, 2), (2, 3)))
WEBS = (
    (1, ()), (2, ()), (2, ((0, 1),)), PATH, LOOSE, (3, ((0, 1), (0, 2), (1, 2))), (4, ((0, 1), (0, 2), (0, 3))),
    (4, ((0, 1), (0, 3), (1, 2), (2, 3))), (6, ((0, 1), (2, 3))),
)
NUMBERS = (True, False, None, -1, 0, 1, 10 ** 39, "2", (), [], {}, (2,))


def near_rows(web):
    return [tuple(model.near(web, seat)) for seat in range(web[0])]


def right_of(table, test):
    return tuple(standing for standing in tables.all_standings(table) if test(standing))


def nobody(table):
    return right_of(table, lambda standing: not any(tables.moves(table, seat, standing) for seat in range(len(standing))))


class Rings(unittest.TestCase):
    def test_tables(self):
        for seats in range(2, 7):
            for size in range(2, 10):
                if size ** seats > 729:
                    self.assertRaises(NoTable, ring, seats, size)
                    continue
                def rule(seat, view):
                    if seat == 0:
                        return [(view[0] + 1) % size] if view[0] == view[1] else []
                    return [view[1]]
                want = tables.made(size, [((seat - 1) % seats,) for seat in range(seats)], rule)
                one = right_of(want, lambda standing: len([1 for s in range(seats) if tables.moves(want, s, standing)]) == 1)
                for movers in MOVERS:
                    self.assertEqual(ring(seats, size, movers=movers), (want, one, movers))
                self.assertEqual(ring(seats, size), (want, one, "one"))
                self.assertIs(is_case(ring(seats, size)), True)

    def test_comes_right(self):
        for seats, size in ((2, 2), (2, 5), (2, 9), (3, 3), (3, 5), (4, 4), (4, 5)):
            for movers in MOVERS:
                self.assertIs(comes_right(ring(seats, size, movers=movers)), True)
        self.assertIs(comes_right(ring(4, 2)), False)

    def test_refused(self):
        for seats in NUMBERS + (7,):
            for size, movers in ((3, "one"), (None, "one"), (10, None), (9, "all")):
                with self.assertRaises(NoNumber) as told:
                    ring(seats, size, movers=movers)
                self.assertIs(told.exception.number, seats)
        for size in NUMBERS + (10,):
            for movers in ("one", None):
                for seats in (2, 6):
                    with self.assertRaises(NoNumber) as told:
                        ring(seats, size, movers=movers)
                    self.assertIs(told.exception.number, size)
        for movers in ODD + ("One", "any", ("one",)):
            self.assertRaises(NoMovers, ring, 2, 3, movers=movers)
            self.assertRaises(NoMovers, ring, 6, 9, movers=movers)
        self.assertRaises(NoTable, ring, 6, 4)
        self.assertRaises(NoTable, ring, 4, 6)


class Webs(unittest.TestCase):
    def test_hues(self):
        for web in WEBS:
            near = near_rows(web)
            for size in range(2, 10):
                if size ** web[0] > 729:
                    self.assertRaises(NoTable, hues, web, size)
                    continue
                def rule(seat, view):
                    free = sorted(set(range(size)) - set(view[1:]))
                    return free[:1] if view[0] in view[1:] else []
                want = tables.made(size, near, rule)
                for movers in MOVERS:
                    self.assertEqual(hues(web, size, movers=movers), (want, nobody(want), movers))
                self.assertEqual(hues(web, size)[2], "one")
                if size > max(map(len, near)):
                    self.assertIs(comes_right(hues(web, size)), True)
                    # Nobody is able just where no two neighbours are alike.
                    self.assertEqual(nobody(want), right_of(want, lambda standing: all(standing[a] != standing[b] for a, b in web[1])))
        self.assertIs(comes_right(hues((2, ((0, 1),)), 2, movers="all")), False)

    def test_alone(self):
        for web in WEBS:
            near = near_rows(web)
            want = tables.made(2, near, lambda seat, view: [1 - view[0]] if view[0] == (1 in view[1:]) else [])
            for movers in MOVERS:
                self.assertEqual(alone(web, movers=movers), (want, nobody(want), movers))
            self.assertEqual(alone(web), (want, nobody(want), "one"))
            self.assertIs(comes_right(alone(web)), True)
            # Those with a 1 are no neighbours, and each other one has one of them for its.
            for standing in nobody(want):
                for seat, mark in enumerate(standing):
                    self.assertEqual(mark == 0, any(standing[other] == 1 for other in near[seat]))
        self.assertIs(comes_right(alone((2, ((0, 1),)), movers="all")), False)

    def test_tops(self):
        for web in WEBS:
            near = near_rows(web)
            steps = model.far(web)
            for size in (2, 3, 4, 9):
                for top in range(web[0]):
                    if size ** web[0] > 729:
                        self.assertRaises(NoTable, tops, web, top, size)
                        continue
                    def rule(seat, view):
                        if seat == top:
                            return [0]
                        return [min([min(view[1:]) + 1, size - 1])] if view[1:] else [size - 1]
                    want = tables.made(size, near, rule)
                    away = [steps[seat, top] for seat in range(web[0])]
                    right = tuple(size - 1 if far is None or far >= size else far for far in away)
                    for movers in MOVERS:
                        case = tops(web, top, size, movers=movers)
                        self.assertEqual(case, (want, (right,), movers))
                        if size ** web[0] < 100 or movers == "one":
                            self.assertIs(comes_right(case), True)
                    self.assertEqual(tops(web, top, size)[2], "one")
                    self.assertEqual(nobody(want), (right,))

    def test_some_webs(self):
        rng = rng_of(32)
        for _ in range(12):
            web = some_web(rng, 6)
            size = 2 if web[0] > 4 else rng.randint(2, 4)
            for case in (hues(web, size), alone(web), tops(web, rng.randrange(web[0]), size)):
                self.assertIs(is_table(case[0]), True)
                self.assertIs(is_case(case), True)
                self.assertEqual([looks for looks, _ in case[0][1]], near_rows(web))
                for standing in standings(case[0]):
                    self.assertIs(standing in case[1], able_seats(case[0], standing) == ())

    def test_refused(self):
        for thing in list(ODD) + list(spoiled(PATH)):
            for ask in (
                lambda: hues(thing, 3), lambda: hues(thing, None, movers=None), lambda: alone(thing), lambda: alone(thing, movers=0),
                lambda: tops(thing, 0, 3), lambda: tops(thing, None, None, movers=None),
            ):
                self.assertRaises(NoWeb, ask)
        for seat in (3, -1, True, None, "0", [], 10 ** 39):
            for size, movers in ((3, "one"), (None, None)):
                with self.assertRaises(NoSeat) as told:
                    tops(PATH, seat, size, movers=movers)
                self.assertIs(told.exception.seat, seat)
        for size in NUMBERS + (10,):
            for ask in (lambda: hues(PATH, size), lambda: hues(FULL, size, movers=None), lambda: tops(PATH, 0, size),
                        lambda: tops(FULL, 11, size, movers=None)):
                with self.assertRaises(NoNumber) as told:
                    ask()
                self.assertIs(told.exception.number, size)
        for movers in ODD + ("One", "any"):
            for web in (PATH, FULL):
                self.assertRaises(NoMovers, hues, web, 9, movers=movers)
                self.assertRaises(NoMovers, alone, web, movers=movers)
                self.assertRaises(NoMovers, tops, web, 0, 9, movers=movers)
        for web in (FULL, (7, ()), (12, ())):
            for ask in (lambda: hues(web, 2), lambda: alone(web), lambda: tops(web, 0, 2)):
                self.assertRaises(NoTable, ask)
        before = repr(PATH)
        self.assertEqual([hues(PATH, 3), alone(PATH), tops(PATH, 1, 3)], [hues(PATH, 3), alone(PATH), tops(PATH, 1, 3)])
        self.assertEqual(repr(PATH), before)
