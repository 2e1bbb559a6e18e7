"""[24]: seats' terms, rules, ruled tables."""

import unittest

from comeright.errors import NoNumber, NoRules, NoTable
from comeright.tables.rules import is_rules, ruled
from comeright.tables.tables import is_table, moves, standings
from tests import model, tables
from tests.samples import ODD, deep, rng_of, spoiled

COPY = ((("same", ("own",), ("look", 0)), ("minus", 1, ("own",))),)
NUMBERS = (True, False, None, -1, 6, 10 ** 39, "2", (), (2,), [], {}, "")
LEAVES = (("own",), ("ties",), ("size",))
OPS = ("plus", "minus", "times", "over", "rest", "less", "same", "low", "high")


def value(term, own, seen, size):
    """What a seat's term comes to in a view, straight by the point."""
    if isinstance(term, int):
        return term
    if term[0] == "own":
        return own
    if term[0] == "ties":
        return len(seen)
    if term[0] == "look":
        return seen[term[1]]
    if term[0] == "size":
        return size
    parts = [value(part, own, seen, size) for part in term[1:]]
    if term[0] == "if":
        return parts[1] if parts[0] != 0 else parts[2]
    return model.ops(term[0], *parts)


def by_rules(size, seats):
    """The table by rules, view by view."""
    def rule(seat, view):
        told = []
        for guard, then in seats[seat][1]:
            if value(guard, view[0], view[1:], size) != 0:
                told.append(value(then, view[0], view[1:], size) % size)
        return told

    return tables.made(size, [looks for looks, _ in seats], rule)


def some_term(rng, looks, inner):
    if inner == 0 or rng.random() < 0.25:
        leaves = LEAVES + tuple(("look", at) for at in range(looks)) * 2 + (rng.randrange(4), rng.randrange(997))
        return rng.choice(leaves)
    head = rng.choice(OPS + ("if", "less", "same"))
    return (head,) + tuple(some_term(rng, looks, inner - 1) for _ in range(3 if head == "if" else 2))


def some_seats(rng, most=243):
    while True:
        size, many = rng.randint(2, 9), rng.randint(1, 6)
        if size ** many <= most:
            break
    seats = []
    for seat in range(many):
        looks = [other for other in range(many) if other != seat]
        rng.shuffle(looks)
        looks = tuple(looks[:rng.randint(0, len(looks))])
        rules = tuple(
            (some_term(rng, len(looks), 3), some_term(rng, len(looks), 3)) for _ in range(rng.randint(0, 6))
        )
        seats.append((looks, rules))
    return size, tuple(seats)


def heavy(many):
    """A term of so many terms, an odd number, not deep."""
    terms = [("own",)] * ((many + 1) // 2)
    while len(terms) > 1:
        terms = [("plus",) + tuple(terms[at:at + 2]) if len(terms[at:at + 2]) == 2 else terms[at]
                 for at in range(0, len(terms), 2)]
    return terms[0]


def count(term):
    return 1 + sum(count(part) for part in term[1:] if len(term) > 2) if isinstance(term, tuple) else 1


class Rules(unittest.TestCase):
    def test_rules_of_each_number_of_looks(self):
        for looks in range(6):
            self.assertIs(is_rules((), looks=looks), True)
            self.assertIs(is_rules((((), ()),), looks=looks), False)
            for at in range(7):
                term = ("look", at)
                self.assertIs(is_rules(((term, 1),), looks=looks), at < looks)
                self.assertIs(is_rules(((1, ("if", 0, 1, term)),), looks=looks), at < looks)

    def test_how_many(self):
        for many in range(9):
            self.assertIs(is_rules(((1, ("own",)),) * many, looks=0), many <= 6)

    def test_leaves(self):
        for leaf in (("own",), ("ties",), ("size",), ("look", 1), 0, 996):
            self.assertIs(is_rules(((leaf, leaf),), looks=2), True)
        for leaf in (
            ("word",), ("sum",), ("least",), ("most",), ("many", 1), ("able",), ("mark", 0), ("look",), ("own", 0), ("size", 1),
            ("ties", 0), ("look", 2), ("look", -1), ("look", True), ("look", False), ("look", None), ("look", "0"), ("look", 0, 0),
            ["own"], ("own", "own"), 997, -1, True, False, None, "own", (), ([],), ({},), (None,), ("look", [0]), ("if",), ("plus", 1),
            ("plus", 1, 2, 3), ("if", 1, 2), ("if", 1, 2, 3, 4), ("Plus", 1, 2), ([], 1, 2), ({}, 1, 2, 3), ("plus", 1, None),
        ):
            self.assertIs(is_rules(((leaf, 1),), looks=2), False, leaf)
            self.assertIs(is_rules(((1, leaf),), looks=2), False, leaf)
            self.assertIs(is_rules(((1, ("if", 1, leaf, 2)),), looks=2), False, leaf)

    def test_within_one_another(self):
        for make in (lambda told: ("plus", told, 1), lambda told: ("if", 1, 2, told), lambda told: ("low", 3, told)):
            for many in range(1, 20):
                term = deep(make, many)
                self.assertIs(is_rules(((term, 1),), looks=0), many <= 16)
                self.assertIs(is_rules(((1, term),), looks=0), many <= 16)
        # Each rule's terms count by themselves.
        self.assertIs(is_rules(((deep(lambda told: ("plus", told, 1), 16),) * 2,) * 6, looks=0), True)

    def test_two_hundred_terms(self):
        for many in (197, 199, 201, 203, 511):
            term = heavy(many)
            self.assertEqual(count(term), many)
            self.assertIs(is_rules(((term, term),) * 6, looks=0), many <= 199)
        # Of an if and an odd term of 196 there are 200.
        for many in (195, 197, 199):
            term = ("if", heavy(many), 1, 2)
            self.assertEqual(count(term), many + 3)
            self.assertIs(is_rules(((1, term),), looks=0), many + 3 <= 200)
        self.assertIs(is_rules(((("if", heavy(195), ("look", 0), 2), 0),), looks=1), True)
        self.assertEqual(count(("if", heavy(195), ("look", 0), ("plus", 1, 1))), 200)
        self.assertIs(is_rules(((("if", heavy(195), ("look", 0), ("plus", 1, 1)), 0),), looks=1), True)
        self.assertIs(is_rules(((("if", heavy(197), ("look", 0), ("plus", 1, 1)), 0),), looks=1), False)
        self.assertIs(is_rules(((("if", heavy(195), 1, ("if", 1, 1, 1)), 0),), looks=1), False)

    def test_what_has_more_parts_than_can_be_gone_through(self):
        for many in (8, 16, 17, 30):
            for make in (lambda told: ("plus", told, told), lambda told: ("if", told, told, told)):
                self.assertIs(is_rules(((deep(make, many), 1),), looks=0), False)

    def test_near_rules(self):
        for thing in spoiled(COPY):
            self.assertIs(is_rules(thing, looks=1), thing == (), thing)
        for thing in ODD:
            self.assertIs(is_rules(thing, looks=1), thing == ())
        for thing in ([(1, 1)], ([1, 1],), ((1,),), ((1, 1, 1),), (1, 1), ((1, 1), None), {(1, 1): 1}, "", (True,)):
            self.assertIs(is_rules(thing, looks=1), False, thing)

    def test_looks_ahead_of_all_else(self):
        for looks in NUMBERS:
            for thing in (COPY, (), None, []):
                with self.assertRaises(NoNumber) as told:
                    is_rules(thing, looks=looks)
                self.assertIs(told.exception.number, looks)


class Ruled(unittest.TestCase):
    def test_two_that_copy(self):
        self.assertEqual(ruled(2, (((1,), COPY), ((0,), COPY))), (2, (((1,), ((1,), (), (), (0,))), ((0,), ((1,), (), (), (0,))))))
        self.assertEqual(ruled(3, (((), ()),)), (3, (((), ((), (), ())),)))

    def test_a_guard_of_0_and_the_own_mark(self):
        self.assertEqual(ruled(3, (((), ((0, 1),)),)), (3, (((), ((), (), ())),)))
        self.assertEqual(ruled(3, (((), ((1, 1),)),)), (3, (((), ((1,), (), (1,))),)))
        self.assertEqual(ruled(3, (((), ((996, ("own",)),)),)), (3, (((), ((), (), ())),)))
        self.assertEqual(ruled(2, (((), ((("own",), 0),)),)), (2, (((), ((), (0,))),)))

    def test_brought_to_marks_by_the_size(self):
        for worth in (0, 1, 2, 3, 5, 8, 995, 996):
            told = ruled(3, (((), ((1, worth),)),))[1][0][1]
            self.assertEqual(told, tuple(() if own == worth % 3 else (worth % 3,) for own in range(3)))
        # By rest of 997 first: 0 less 1 is 996.
        self.assertEqual(ruled(5, (((), ((1, ("minus", 0, 1)),)),))[1][0][1], ((1,), (), (1,), (1,), (1,)))
        self.assertEqual(ruled(4, (((), ((1, ("times", 996, ("own",))),)),))[1][0][1], ((), (0,), (3,), (2,)))

    def test_rising_and_each_once(self):
        rules = tuple((1, mark) for mark in (2, 0, 5, 2, 1, 4))
        self.assertEqual(ruled(3, (((), rules),))[1][0][1], ((1, 2), (0, 2), (0, 1)))

    def test_leaves_of_a_view(self):
        table = ruled(4, (((2, 1), ((1, ("look", 0)), (1, ("look", 1)))), ((), ((1, ("ties",)),)), ((0,), ((1, ("size",)), (1, ("ties",))))))
        self.assertEqual(moves(table, 0, (0, 1, 2)), (1, 2))
        self.assertEqual(moves(table, 0, (1, 1, 2)), (2,))
        self.assertEqual(moves(table, 1, (0, 1, 2)), (0,))
        self.assertEqual(moves(table, 2, (3, 1, 2)), (0, 1))

    def test_against_the_model(self):
        rng = rng_of(24)
        for _ in range(60):
            size, seats = some_seats(rng)
            before = repr(seats)
            told = ruled(size, seats)
            self.assertEqual(told, by_rules(size, seats))
            self.assertEqual(repr(seats), before)
            self.assertIs(is_table(told), True)
            self.assertEqual(ruled(size, seats), told)

    def test_as_great_as_can_be(self):
        term = ("if", heavy(195), ("look", 0), 2)
        looks = [tuple(other for other in range(6) if other != seat) for seat in range(6)]
        told = ruled(3, tuple((row, ((term, term),) * 6) for row in looks))
        self.assertEqual(told, by_rules(3, tuple((row, ((term, term),)) for row in looks)))
        self.assertEqual(len(standings(told)), 729)


class Refused(unittest.TestCase):
    def test_no_size(self):
        for size in (1, 10, 0, -1, True, None, "2", (2,), 10 ** 39, []):
            for seats in ((((), ()),), None, (), (((), ()),) * 6):
                self.assertRaises(NoRules, ruled, size, seats)

    def test_no_seats(self):
        good = (((1,), COPY), ((0,), COPY))
        for seats in ODD + (
            good + good + good + good[:1], list(good), ((((0,), COPY),) + good[1:]), (((1, 1), ()), good[1]), (((2,), ()), good[1]),
            (([1], ()), good[1]), (((1,), list(COPY)), good[1]), (((), COPY), good[1]), (((1,), COPY, ()), good[1]),
            (((1,),), good[1]), (((True,), COPY), good[1]), (((1,), COPY * 7), good[1]), (((1,), ((1,),)), good[1]),
        ):
            self.assertRaises(NoRules, ruled, 2, seats)
            self.assertRaises(NoRules, ruled, 9, seats)
        for seats in spoiled(good):
            self.assertRaises(NoRules, ruled, 2, seats)

    def test_too_many_standings_last(self):
        for size in range(2, 10):
            for many in range(1, 7):
                seats = (((), ((1, 0),)),) * many
                if size ** many <= 729:
                    self.assertEqual(ruled(size, seats)[0], size)
                else:
                    self.assertRaises(NoTable, ruled, size, seats)
                    self.assertRaises(NoRules, ruled, size, seats[1:] + (((), ((1, None),)),))
