"""[33]: small runs, marks and rows, tables of plans."""

import unittest

from comeright.cases.verdicts import comes_right, is_case
from comeright.errors import NoBase, NoMovers, NoNumber, NoPlan, NoTable, NoWeb, NoWords
from comeright.made.ofplans import mark_of, plan_case, row_of, small_run
from comeright.plain.plain import levels
from comeright.tables.tables import able_seats, standings
from tests import model, tables
from tests.cases import MOVERS
from tests.samples import FULL, LEAST, LINE, ODD, STILL, WALKS, rng_of, some_plan, some_web, some_row, spoiled

# Bases, rounds and seats of which there are tables.
SMALL = [(base, rounds, seats) for base in range(2, 10) for rounds in range(3) for seats in range(1, 7)
         if base ** (rounds + 1) <= 9 and base ** ((rounds + 1) * seats) <= 729]
BASES = (True, False, None, 0, 1, 10, -1, 10 ** 39, "2", (), [], {}, (2,))


def small(web, words, plan, base, seat, at):
    """One small level, straight from those below it."""
    first, nexts = plan
    near = model.near(web, seat)
    if at == 0:
        return model.value(first, words[seat], [0] * len(near)) % base
    heap = [small(web, words, plan, base, other, at - 1) for other in near]
    return model.value(nexts[at - 1], small(web, words, plan, base, seat, at - 1), heap) % base


def figures(mark, base, many):
    return tuple(mark // base ** (many - 1 - at) % base for at in range(many))


def table_of(web, words, plan, base):
    """The table, view by view."""
    many = len(plan[1]) + 1

    def rule(seat, view):
        rows = [figures(mark, base, many) for mark in view]
        told = []
        for at in range(many):
            if at == 0:
                made = model.value(plan[0], words[seat], [0] * (len(view) - 1)) % base
            else:
                made = model.value(plan[1][at - 1], rows[0][at - 1], [row[at - 1] for row in rows[1:]]) % base
            told.append(view[0] + (made - rows[0][at]) * base ** (many - 1 - at))
        return told

    return tables.made(base ** many, [tuple(model.near(web, seat)) for seat in range(web[0])], rule)


def some_small_plan(rng, rounds):
    while True:
        first, nexts = some_plan(rng)
        if len(nexts) >= rounds:
            return (first, nexts[:rounds])


class Runs(unittest.TestCase):
    def test_by_hand(self):
        self.assertEqual(small_run(LINE, (5, 9, 3, 7), STILL, base=4), ((2,), (3,), (1,), (0,)))
        self.assertEqual(small_run((2, ((0, 1),)), (996, 5), WALKS, base=2), ((1, 1, 1), (1, 1, 1)))
        # What the next one reckons with is small, too: 996 by rest of 5 is 1.
        plan = (("word",), (("times", ("own",), 3), ("plus", ("sum",), ("own",))))
        self.assertEqual(small_run((2, ((0, 1),)), (996, 4), plan, base=5), ((1, 3, 0), (4, 2, 0)))

    def test_against_the_model(self):
        rng = rng_of(33)
        for _ in range(60):
            web = some_web(rng, 7)
            plan = some_plan(rng)
            words = some_row(rng, web[0])
            for base in (2, 3, rng.randint(4, 8), 9):
                want = tuple(
                    tuple(small(web, words, plan, base, seat, at) for at in range(len(plan[1]) + 1)) for seat in range(web[0])
                )
                self.assertEqual(small_run(web, words, plan, base=base), want)

    def test_where_all_levels_are_below_the_base(self):
        self.assertEqual(small_run(LINE, (5, 8, 3, 7), LEAST, base=9), levels((LEAST,), LINE, (5, 8, 3, 7), (0,) * 4))
        six = (("word",), (("high", ("own",), ("most",)),) * 6)
        self.assertEqual(small_run(FULL, tuple(range(8)) + (0,) * 4, six, base=8), levels((six,), FULL, tuple(range(8)) + (0,) * 4, (0,) * 12))


class Marks(unittest.TestCase):
    def test_there_and_back(self):
        for base in range(2, 10):
            for rounds in range(7):
                size = base ** (rounds + 1)
                for mark in {0, 1, base - 1, base, size - 1, size // 2, size // 3} & set(range(size)):
                    row = row_of(mark, base=base, rounds=rounds)
                    self.assertEqual(row, figures(mark, base, rounds + 1))
                    self.assertEqual(mark_of(row, base=base), mark)
                with self.assertRaises(NoNumber) as told:
                    row_of(size, base=base, rounds=rounds)
                self.assertEqual(told.exception.number, size)
        self.assertEqual(mark_of((1, 0, 2), base=3), 11)
        self.assertEqual(row_of(11, base=3, rounds=3), (0, 1, 0, 2))

    def test_refused(self):
        for row in ODD + ((0, 3), (3,), (-1,), (True,), (False, 0), (0,) * 8, [0, 1], (None,), ("0",), ((0,),), 0, 1):
            if row in ((0,), (0, 0), (0, 1, 2)) and type(row) is tuple and all(type(part) is int for part in row):
                continue
            for base in (3, None, 10):
                if row in ((0, 3), (3,)) and base != 3:
                    continue
                with self.assertRaises(NoNumber) as told:
                    mark_of(row, base=base)
                self.assertIs(told.exception.number, row)
        for base in BASES:
            for row in ((0,), (1, 0), (8,) * 7):
                self.assertRaises(NoBase, mark_of, row, base=base)
            for mark in (0, 1, 8):
                self.assertRaises(NoBase, row_of, mark, base=base, rounds=1)
                self.assertRaises(NoBase, row_of, mark, base=base, rounds=None)
        for mark in (True, False, None, -1, 10 ** 39, "1", (), (1,), [], {}):
            for base, rounds in ((2, 1), (None, 1), (2, None), (0, 9)):
                with self.assertRaises(NoNumber) as told:
                    row_of(mark, base=base, rounds=rounds)
                self.assertIs(told.exception.number, mark)
        for rounds in (True, False, None, -1, 7, 10 ** 39, "1", (), [], {}):
            with self.assertRaises(NoNumber) as told:
                row_of(3, base=2, rounds=rounds)
            self.assertIs(told.exception.number, rounds)


class Cases(unittest.TestCase):
    def test_against_the_model(self):
        rng = rng_of(331)
        for base, rounds, seats in SMALL:
            for _ in range(2):
                web = (seats, tuple((a, b) for a in range(seats) for b in range(a + 1, seats) if rng.random() < 0.6))
                plan = some_small_plan(rng, rounds)
                words = some_row(rng, seats)
                movers = rng.choice(MOVERS)
                case = plan_case(web, words, plan, base=base, movers=movers)
                self.assertEqual(case[0], table_of(web, words, plan, base))
                right = tuple(mark_of(row, base=base) for row in small_run(web, words, plan, base=base))
                self.assertEqual(case[1:], ((right,), movers))
                self.assertIs(is_case(case), True)
                self.assertEqual([standing for standing in standings(case[0]) if not able_seats(case[0], standing)], [right])
                self.assertEqual(plan_case(web, words, plan, base=base), case[:2] + ("some",))

    def test_comes_right_by_all_four(self):
        rng = rng_of(332)
        for _ in range(40):
            base, rounds, seats = rng.choice([row for row in SMALL if row[0] ** ((row[1] + 1) * row[2]) <= 256])
            web = (seats, tuple((a, b) for a in range(seats) for b in range(a + 1, seats) if rng.random() < 0.6))
            plan = some_small_plan(rng, rounds)
            for movers in MOVERS:
                self.assertIs(comes_right(plan_case(web, some_row(rng, seats), plan, base=base, movers=movers)), True)

    def test_by_hand(self):
        # Two seats that tell the greatest word near: a mark is a word and what is told.
        plan = (("word",), (("high", ("own",), ("most",)),))
        case = plan_case((2, ((0, 1),)), (1, 0), plan, base=2)
        self.assertEqual(case[1], ((3, 1),))
        self.assertEqual([looks for looks, _ in case[0][1]], [(1,), (0,)])
        self.assertEqual(case[0][1][0][1][:4], ((2,), (2,), (1, 2), (1, 2)))

    def test_no_table(self):
        for base, rounds, seats in ((2, 3, 1), (3, 2, 1), (4, 1, 1), (9, 1, 1), (9, 6, 1), (2, 0, 7), (2, 0, 12), (9, 0, 4), (4, 0, 5), (2, 2, 4), (3, 1, 4)):
            plan = (("word",), (("own",),) * rounds)
            web, words = (seats, ()), (0,) * seats
            self.assertRaises(NoTable, plan_case, web, words, plan, base=base)
            self.assertRaises(NoMovers, plan_case, web, words, plan, base=base, movers="any")
            self.assertEqual(len(small_run(web, words, plan, base=base)), seats)
        self.assertEqual(len(standings(plan_case((6, ()), (0,) * 6, (("word",), ()), base=3)[0])), 729)
        self.assertEqual(len(standings(plan_case((3, ()), (0,) * 3, (("word",), (0,)), base=3)[0])), 729)

    def test_refused(self):
        words = (5, 9, 3, 7)
        def both(web, words, plan, **named):
            return [lambda: small_run(web, words, plan, **named), lambda: plan_case(web, words, plan, **named),
                    lambda: plan_case(web, words, plan, movers=None, **named)]
        for thing in list(ODD) + list(spoiled((2, ((0, 1),)))):
            for ask in both(thing, None, None, base=None) + both(thing, (0, 0), STILL, base=2):
                self.assertRaises(NoWeb, ask)
        for thing in ODD + (words[:3], words + (0,), (5, 9, 3, 997), (5, 9, 3, True), list(words)):
            for ask in both(LINE, thing, None, base=None) + both(LINE, thing, STILL, base=2):
                self.assertRaises(NoWords, ask)
        for thing in ODD + (STILL + ((),), (("own",), ()), (("word",), (("word",),))):
            for ask in both(LINE, words, thing, base=None) + both(LINE, words, thing, base=2):
                self.assertRaises(NoPlan, ask)
        for base in BASES:
            for ask in both(LINE, words, STILL, base=base) + both(FULL, words * 3, LEAST, base=base):
                self.assertRaises(NoBase, ask)
        for movers in ODD + ("One", "any"):
            self.assertRaises(NoMovers, plan_case, LINE, words, STILL, base=2, movers=movers)
            self.assertRaises(NoMovers, plan_case, FULL, words * 3, LEAST, base=9, movers=movers)
