"""[25]: wishes, wished standings."""

import unittest

from comeright.errors import NoNumber, NoTable, NoWish
from comeright.tables.tables import able_seats, standings
from comeright.tables.wishes import is_wish, wished
from tests import model, tables
from tests.samples import ODD, deep, rng_of, spoiled
from tests.tables import COPY, ROUND, STILL, near_tables, some_table
from tests.test_rules import OPS, count, heavy

NUMBERS = (True, False, None, 0, -1, 7, 10 ** 39, "2", (), (2,), [], {}, "")


def value(term, table, standing):
    if isinstance(term, int):
        return term
    if term[0] == "mark":
        return standing[term[1]]
    if term[0] == "able":
        return len([seat for seat in range(len(standing)) if tables.moves(table, seat, standing)])
    if term[0] == "size":
        return table[0]
    parts = [value(part, table, standing) for part in term[1:]]
    if term[0] == "if":
        return parts[1] if parts[0] != 0 else parts[2]
    return model.ops(term[0], *parts)


def some_wish(rng, seats, inner):
    if inner == 0 or rng.random() < 0.2:
        return rng.choice(tuple(("mark", seat) for seat in range(seats)) + (("able",), ("size",), 0, 1, 2, rng.randrange(997)))
    head = rng.choice(OPS + ("if", "less", "same", "same"))
    return (head,) + tuple(some_wish(rng, seats, inner - 1) for _ in range(3 if head == "if" else 2))


class Wishes(unittest.TestCase):
    def test_marks_of_its_seats(self):
        for seats in range(1, 7):
            for seat in range(8):
                self.assertIs(is_wish(("mark", seat), seats=seats), seat < seats)
                self.assertIs(is_wish(("plus", 1, ("mark", seat)), seats=seats), seat < seats)
            for wish in (0, 996, ("able",), ("size",), ("if", ("able",), ("size",), 5)):
                self.assertIs(is_wish(wish, seats=seats), True)

    def test_near_wishes(self):
        for leaf in (
            ("own",), ("ties",), ("look", 0), ("word",), ("sum",), ("many", 1), ("mark",), ("mark", -1), ("mark", True),
            ("mark", False), ("mark", "0"), ("mark", None), ("mark", 0, 0), ("able", 0), ("size", 0), ["able"], 997, -1, True, False,
            None, "able", (), ([],), ({},), ("plus", 1), ("if", 1, 2), ("plus", 1, 2, 3), ("if", 1, 2, 3, 4), ("mark", [0]),
        ):
            self.assertIs(is_wish(leaf, seats=2), False, leaf)
            self.assertIs(is_wish(("low", leaf, 1), seats=2), False, leaf)
        for thing in ODD:
            self.assertIs(is_wish(thing, seats=3), False)
        for thing in spoiled(("if", ("able",), ("mark", 1), 2)):
            self.assertIs(is_wish(thing, seats=3), False, thing)

    def test_within_one_another_and_in_all(self):
        for make in (lambda told: ("plus", told, 1), lambda told: ("if", 1, 2, told)):
            for many in range(1, 20):
                self.assertIs(is_wish(deep(make, many), seats=1), many <= 16)
        for many in (195, 197, 199):
            wish = ("if", heavy_wish(many), ("mark", 0), 2)
            self.assertEqual(count(wish), many + 3)
            self.assertIs(is_wish(wish, seats=1), many + 3 <= 200)
        for many in (16, 30):
            self.assertIs(is_wish(deep(lambda told: ("plus", told, told), many), seats=1), False)

    def test_seats_ahead_of_all_else(self):
        for seats in NUMBERS:
            for thing in (1, ("able",), None, []):
                with self.assertRaises(NoNumber) as told:
                    is_wish(thing, seats=seats)
                self.assertIs(told.exception.number, seats)


def heavy_wish(many):
    """A wish of so many terms, an odd number."""
    def able(term):
        return ("able",) if len(term) == 1 else term[:1] + tuple(able(part) for part in term[1:])

    return able(heavy(many))


class Wished(unittest.TestCase):
    def test_by_hand(self):
        self.assertEqual(wished(COPY, 0), ())
        self.assertEqual(wished(COPY, 5), standings(COPY))
        self.assertEqual(wished(COPY, ("mark", 0)), ((1, 0), (1, 1)))
        self.assertEqual(wished(COPY, ("able",)), ((0, 1), (1, 0)))
        self.assertEqual(wished(COPY, ("same", ("able",), 0)), ((0, 0), (1, 1)))
        self.assertEqual(wished(ROUND, ("less", ("mark", 0), ("minus", ("size",), 1))), ((0,), (1,)))
        self.assertEqual(wished(STILL, ("able",)), ())
        self.assertEqual(wished(ROUND, ("minus", ("size",), 3)), ())

    def test_against_the_model(self):
        rng = rng_of(25)
        lengths = set()
        for _ in range(60):
            table = some_table(rng, 243)
            wish = some_wish(rng, len(table[1]), 4)
            told = wished(table, wish)
            want = tuple(standing for standing in tables.all_standings(table) if value(wish, table, standing) != 0)
            self.assertEqual(told, want)
            self.assertEqual(wished(table, wish), told)
            lengths.add(0 < len(told) < len(standings(table)))
        self.assertEqual(lengths, {True, False})

    def test_how_many_are_able(self):
        rng = rng_of(251)
        for _ in range(20):
            table = some_table(rng, 81)
            for many in range(4):
                want = tuple(standing for standing in standings(table) if len(able_seats(table, standing)) == many)
                self.assertEqual(wished(table, ("same", many, ("able",))), want)

    def test_refused(self):
        for thing in list(ODD) + list(near_tables()):
            self.assertRaises(NoTable, wished, thing, None)
            self.assertRaises(NoTable, wished, thing, 1)
        for wish in ODD + (("mark", 2), ("own",), 997, ("plus", 1, ("mark", 2)), [("able",)]):
            self.assertRaises(NoWish, wished, COPY, wish)
        self.assertRaises(NoWish, wished, ROUND, ("mark", 1))
        table, wish = repr(COPY), ("plus", ("able",), ("mark", 1))
        wished(COPY, wish)
        self.assertEqual((repr(COPY), repr(wish)), (table, "('plus', ('able',), ('mark', 1))"))
