"""[5]: terms, firsts, nexts, what they come to."""

import unittest

from comeright.errors import NoNumber, NoTerm, NoWords
from comeright.plans.terms import OPS, WORTHS, comes_to, does_look, is_first, is_next
from tests import model
from tests.samples import ODD, rng_of, some_row, some_term, spoiled

NAMES = ("plus", "minus", "times", "over", "rest", "less", "same", "low", "high")


def nested(many, leaf):
    """A term with so many ops within one another."""
    term = leaf
    for _ in range(many):
        term = ("plus", term, 1)
    return term


def ifs(deep):
    """A term of ifs all through: 1, 4, 13, 40 terms."""
    return 1 if deep == 0 else ("if",) + (ifs(deep - 1),) * 3


class IsTerm(unittest.TestCase):
    def both(self, term, first, then):
        self.assertIs(is_first(term), first, term)
        self.assertIs(is_next(term), then, term)

    def test_worths(self):
        self.assertEqual(WORTHS, 997)
        for term, fine in ((0, True), (996, True), (997, False), (-1, False), (True, False), (False, False)):
            self.both(term, fine, fine)
            self.both(("plus", term, 1), fine, fine)
            self.both(("many", term), False, fine)

    def test_words(self):
        self.both(("word",), True, False)
        self.both(("ties",), True, True)
        for word in ("own", "sum", "least", "most"):
            self.both((word,), False, True)
        for term in (("many",), ("many", 1, 2), ("word", 1), ("own", ()), ("if", 1, 2), ("plus", 1), ("plus", 1, 2, 3),
                     ("if", 1, 2, 3, 4), ("if",), ("plus",), ("worth",), "word", (), ("sum", 1), ("many", ("own",))):
            self.both(term, False, False)

    def test_what_a_first_and_a_next_may_have_in_them(self):
        for op in NAMES:
            self.both((op, ("word",), ("ties",)), True, False)
            self.both((op, ("own",), ("ties",)), False, True)
            self.both((op, ("ties",), 4), True, True)
            self.both((op, ("word",), ("own",)), False, False)
        for word in (("sum",), ("least",), ("most",), ("many", 0)):
            self.both(("if", ("ties",), 1, word), False, True)
            self.both(("if", ("word",), 1, word), False, False)

    def test_how_deep(self):
        self.both(nested(5, ("ties",)), True, True)
        self.both(nested(6, ("ties",)), False, False)
        self.both(("if", 1, 2, nested(4, 1)), True, True)
        self.both(("if", nested(5, 1), 2, 3), False, False)
        self.both(("less", 1, nested(5, 1)), False, False)

    def test_how_many(self):
        full = ifs(3)
        self.both(full, True, True)
        self.both(("if", full[1], full[2], ("if", full[1][1], ("plus", 1, 1), ("plus", 1, ("plus", 1, 1)))), True, True)
        wide = ("if", full[1], full[2], ("if", full[1][1], full[1][1], ("plus", ("plus", 1, 1), 1)))
        self.both(wide, False, False)
        self.both(("if", full[1], full[2], ("if", ("many", 3), ifs(1), ifs(1))), False, True)
        self.both(("plus", full, 1), False, False)

    def test_of_anything(self):
        for thing in ODD:
            self.both(thing, False, False)
        for term in (("plus", ("word",), ("if", 1, ("ties",), 2)),):
            for thing in spoiled(term):
                if thing != ("?",):
                    self.both(thing, False, False)


class Looks(unittest.TestCase):
    def test_looks(self):
        for term in (("sum",), ("least",), ("most",), ("many", 0), ("if", ("own",), 1, ("plus", ("sum",), 1))):
            self.assertIs(does_look(term), True)
        for term in (0, ("own",), ("ties",), ("word",), ("if", ("own",), ("ties",), 1)):
            self.assertIs(does_look(term), False)

    def test_neither(self):
        for term in ODD + (("plus", ("word",), ("own",)), ("plus", ("word",), ("sum",)), 997):
            self.assertRaises(NoTerm, does_look, term)


class ComesTo(unittest.TestCase):
    def test_leaves(self):
        self.assertEqual(comes_to(996, 3, ()), 996)
        self.assertEqual(comes_to(("word",), 3, (1, 2)), 3)
        self.assertEqual(comes_to(("own",), 3, (1, 2)), 3)
        self.assertEqual(comes_to(("ties",), 3, (1, 2)), 2)
        heap = (996, 5, 5, 0)
        for term, told in ((("sum",), 9), (("least",), 0), (("most",), 996), (("many", 5), 2), (("many", 7), 0)):
            self.assertEqual(comes_to(term, 1, heap), told)

    def test_of_no_neighbours(self):
        for term in (("sum",), ("least",), ("most",), ("many", 0), ("ties",)):
            self.assertEqual(comes_to(term, 8, ()), 0)

    def test_eleven_worths(self):
        self.assertEqual(comes_to(("sum",), 0, (996,) * 11), 996 * 11 - 997 * 10)
        self.assertEqual(comes_to(("ties",), 0, (0,) * 11), 11)

    def test_ops(self):
        self.assertEqual(tuple(OPS), NAMES)
        told = {
            "plus": (996, 2, 1), "minus": (2, 3, 996), "times": (996, 996, 1), "over": (17, 5, 3), "rest": (17, 5, 2),
            "less": (2, 3, 1), "same": (4, 4, 1), "low": (4, 9, 4), "high": (4, 9, 9),
        }
        for op in NAMES:
            one, two, made = told[op]
            self.assertEqual(OPS[op](one, two), made)
            self.assertEqual(comes_to((op, ("own",), two), one, ()), made)
            self.assertEqual(type(OPS[op](one, two)), int)
        for op in ("over", "rest"):
            self.assertEqual(OPS[op](17, 0), 0)
            self.assertEqual(comes_to((op, 17, ("ties",)), 1, ()), 0)
        for op, same, turned in (("less", 0, 0), ("same", 1, 0), ("low", 4, 3), ("high", 4, 4)):
            self.assertEqual(OPS[op](4, 4), same)
            self.assertEqual(OPS[op](4, 3), turned)

    def test_ops_of_all_small_and_great_worths(self):
        some = (0, 1, 2, 3, 498, 499, 995, 996)
        for op in NAMES:
            for one in some:
                for two in some:
                    self.assertEqual(OPS[op](one, two), model.ops(op, one, two), (op, one, two))

    def test_if(self):
        term = ("if", ("own",), ("plus", ("own",), 1), 7)
        self.assertEqual(comes_to(term, 0, ()), 7)
        self.assertEqual(comes_to(term, 1, ()), 2)
        self.assertEqual(comes_to(term, 996, ()), 0)

    def test_against_the_model(self):
        rng = rng_of(5)
        for _ in range(1500):
            words = rng.choice((("word", "ties"), ("own", "ties", "sum", "least", "most", "many")))
            term = some_term(rng, words, 3)
            worth, heap = rng.randrange(997), some_row(rng, rng.randrange(12))
            self.assertEqual(comes_to(term, worth, heap), model.value(term, worth, heap))
            self.assertEqual(comes_to(term, worth, heap[::-1]), model.value(term, worth, heap))
            self.assertEqual(does_look(term), model.looks(term))

    def test_refused(self):
        for term in ODD + (("plus", ("word",), ("own",)), 997):
            self.assertRaises(NoTerm, comes_to, term, None, None)
        for worth in (-1, 997, True, None, "1", (1,), [1], 10 ** 39):
            with self.assertRaises(NoNumber) as told:
                comes_to(("own",), worth, None)
            self.assertIs(told.exception.number, worth)
        for heap in ((0,) * 12, [1], None, 3, "12", (True,), (997,), (-1,), (1, None), ((1,),), {}):
            self.assertRaises(NoWords, comes_to, ("own",), 1, heap)
