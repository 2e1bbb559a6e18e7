"""[26], [28], [29]: cases, verdicts, what comes right."""

import unittest

from comeright.cases.shown import shows_break, shows_ranks
from comeright.cases.verdicts import MOST_NEXTS, comes_right, is_case, verdict
from comeright.errors import NoCase, TooWide
from comeright.tables.movers import nexts
from comeright.tables.tables import standings
from tests import cases
from tests.cases import (
    ALL_MORE, ALL_MOST, DOWN, GRAY, MOVERS, ROUND_ALL, SOME_MORE, SOME_MOST, some_case, with_nexts,
)
from tests.samples import ODD, rng_of, spoiled
from tests.tables import COPY, ROUND, STILL, made, near_tables

ALIKE = ((0, 0), (1, 1))
# Two that each go round: by turn both do, in whatever order.
TWO_ROUND = (3, (((), ((1,), (2,), (0,))),) * 2)
# Seat 0 goes round for ever; seat 1 may step down once.
STEP = (2, (((), ((1,), (0,))), ((), ((), (0,)))))
# The other one may step down just where seat 0 has a 1.
SEEN = (2, (((), ((1,), (0,))), ((0,), ((), (), (), (0,)))))


def near_cases():
    """Things that are like cases, but none."""
    good = (COPY, ALIKE, "some")
    for table in near_tables():
        yield (table, (), "one")
    for right in (
        list(ALIKE), ALIKE[::-1], ALIKE + ALIKE, ALIKE[:1] * 2, ((0, 0), (1, 2)), ((0, 0), (1, True)), ((False, 0),), ((0, 0), [1, 1]),
        ((0,),), ((0, 0, 0),), None, 0, "", {}, ((),), (None,), ([],), ((0, 0), None), (0, 0), ((1, 1), (0, 1)), ((-1, 0),),
    ):
        yield (COPY, right, "some")
    for movers in (None, "", "One", "any", ("some",), ["some"], {"some": 1}, 0, True, MOVERS, "some "):
        yield (COPY, ALIKE, movers)
    yield from (list(good), good + (None,), good[:2], good[::-1], (), COPY)


class Cases(unittest.TestCase):
    def test_cases(self):
        for movers in MOVERS:
            for right in ((), ALIKE, ALIKE[:1], standings(COPY)):
                self.assertIs(is_case((COPY, right, movers)), True)
            self.assertIs(is_case((STILL, standings(STILL), movers)), True)

    def test_near_cases(self):
        for thing in near_cases():
            self.assertIs(is_case(thing), False, thing)
        for thing in ODD:
            self.assertIs(is_case(thing), False)
        for thing in spoiled((COPY, ALIKE, "turn")):
            self.assertIs(is_case(thing), thing == (COPY, (), "turn"), thing)

    def test_refused(self):
        for thing in list(ODD) + list(near_cases()):
            for ask in (verdict, comes_right):
                self.assertRaises(NoCase, ask, thing)
            for ask in (shows_ranks, shows_break):
                for shown in (None, (), ("stuck", (0, 0)), (None,) * 4):
                    self.assertRaises(NoCase, ask, thing, shown)


class Wide(unittest.TestCase):
    def test_at_most_nexts_and_one_more(self):
        self.assertEqual(MOST_NEXTS, 20000)
        for movers, most, more in (("some", SOME_MOST, SOME_MORE), ("all", ALL_MOST, ALL_MORE)):
            for counts, many in ((most, 20000), (more, 20001)):
                table = with_nexts(movers, counts)
                self.assertEqual(sum(len(nexts(table, standing, movers)) for standing in standings(table)), many)
                for right in ((), standings(table)):
                    case = (table, right, movers)
                    self.assertIs(is_case(case), True)
                    if many == 20000:
                        told = verdict(case)
                        self.assertIs(comes_right(case), right != ())
                        self.assertIs(shows_ranks(case, told[1]), right != ())
                        self.assertIs(shows_break(case, told), right == ())
                        continue
                    for ask in (verdict, comes_right, lambda case: shows_ranks(case, None), lambda case: shows_break(case, ())):
                        with self.assertRaises(TooWide) as told:
                            ask(case)
                        self.assertEqual(told.exception.most, 20000)
                # One at a time there are fewer.
                self.assertIs(comes_right((table, standings(table), "one")), True)
                self.assertIs(comes_right((table, standings(table), "turn")), True)

    def test_too_wide_goes_last(self):
        table = with_nexts("some", SOME_MORE)
        for case in ((table, [], "some"), (table, (), "None"), (table, ((3,) * 6,), "some")):
            self.assertRaises(NoCase, verdict, case)
            self.assertRaises(NoCase, shows_ranks, case, ())

    def test_as_wide_as_can_be(self):
        table = made(9, ((), (), ()), lambda seat, view: range(9))
        self.assertRaises(TooWide, comes_right, (table, (), "some"))
        self.assertRaises(TooWide, comes_right, (table, (), "all"))
        for movers in ("one", "turn"):
            self.assertIs(comes_right((table, standings(table), movers)), True)
            self.assertEqual(verdict((table, (), movers))[0], "ring")


class Verdicts(unittest.TestCase):
    def test_two_that_copy(self):
        for movers, right in (("one", True), ("turn", True), ("some", False), ("all", False)):
            self.assertIs(comes_right((COPY, ALIKE, movers)), right, movers)
            told = verdict((COPY, ALIKE, movers))
            self.assertEqual(told[0], "ranks" if right else "ring")
        self.assertEqual(verdict((COPY, ALIKE, "one")), ("ranks", (None, 0, 0, None)))
        self.assertEqual(verdict((COPY, ALIKE, "turn"))[1][0], None)
        self.assertIn(verdict((COPY, ALIKE, "some"))[1], (((0, 1), (1, 0)), ((1, 0), (0, 1))))
        self.assertIn(verdict((COPY, ALIKE[:1], "one"))[0], ("stuck", "left"))

    def test_each_break(self):
        for movers in MOVERS:
            self.assertEqual(verdict((COPY, ALIKE[:1], movers)), ("stuck", (1, 1)))
            self.assertEqual(verdict((ROUND, ((0,),), movers)), ("left", (0,), (1,)))
            self.assertEqual(verdict((ROUND, (), movers))[0], "ring")
            self.assertEqual(sorted(verdict((ROUND, (), movers))[1])[:3], [(0,), (1,), (2,)])
            self.assertEqual(verdict((ROUND, ((0,), (1,), (2,)), movers)), ("ranks", (None,) * 3))
            self.assertEqual(verdict((STILL, standings(STILL), movers)), ("ranks", (None,) * 64))

    def test_by_turn_with_fairness(self):
        right = tuple(standing for standing in standings(STEP) if standing[1] == 0)
        # By one seat 0 may go round for ever; by turn seat 1, able all the while, moves at last.
        self.assertIs(comes_right((STEP, right, "one")), False)
        self.assertIs(comes_right((STEP, right, "some")), False)
        self.assertIs(comes_right((STEP, right, "turn")), True)
        self.assertIs(comes_right((STEP, right, "all")), True)
        # Where it is able but now and then it may be left out for ever.
        for movers in MOVERS:
            self.assertIs(comes_right((SEEN, right, movers)), movers == "all")
        self.assertEqual(verdict((SEEN, right, "turn"))[0], "ring")
        # A ring in which one seat alone moves is none by turn where the other one is able all the while.
        told = verdict((TWO_ROUND, (), "turn"))
        self.assertEqual({len({standing[seat] for standing in told[1]}) > 1 for seat in (0, 1)}, {True})

    def test_by_all_sets_of_a_few_standings(self):
        rng = rng_of(26)
        seen = {}
        for _ in range(500):
            case = some_case(rng, 9)
            if len(cases.wrong_of(case)) < 8:
                want = cases.comes_right_by_sets(case)
                self.assertIs(comes_right(case), want, case)
                self.assertIs(cases.comes_right(case), want, case)
                seen[case[2], want] = seen.get((case[2], want), 0) + 1
        self.assertEqual(len(seen), 8)
        self.assertGreater(min(seen.values()), 10, seen)

    def test_against_the_model(self):
        rng = rng_of(261)
        seen = {}
        for _ in range(300):
            case = some_case(rng, 81)
            before = repr(case)
            told = verdict(case)
            self.assertIs(comes_right(case), told[0] == "ranks")
            self.assertIs(told[0] == "ranks", cases.comes_right(case), case)
            if told[0] == "ranks":
                self.assertIs(cases.is_ranks(case, told[1]), True)
            else:
                self.assertIs(cases.is_break(case, told), True)
            self.assertEqual(verdict(case), told)
            self.assertEqual(repr(case), before)
            seen[case[2], told[0]] = seen.get((case[2], told[0]), 0) + 1
        for movers in MOVERS:
            self.assertGreater(seen[movers, "ranks"], 3, seen)
            self.assertGreater(seen[movers, "ring"], 3, seen)


class Long(unittest.TestCase):
    def test_729_that_go_down_one_behind_another(self):
        for movers in MOVERS:
            case = (DOWN, (GRAY[-1],), movers)
            ranks = dict(zip(standings(DOWN), verdict(case)[1]))
            for at, standing in enumerate(GRAY[:-1]):
                number = ranks[standing] if movers != "turn" else ranks[standing][0]
                self.assertEqual(number, 727 - at)
            self.assertIs(comes_right(case), True)
            self.assertEqual(verdict((DOWN, (), movers)), ("stuck", GRAY[-1]))
            self.assertEqual(verdict((DOWN, tuple(GRAY[:1]), movers))[0], "left")

    def test_729_that_go_round(self):
        for movers in MOVERS:
            case = (ROUND_ALL, (), movers)
            told = verdict(case)
            self.assertEqual(told[0], "ring")
            self.assertEqual(len(told[1]), 729)
            self.assertIs(cases.is_ring(case, told[1]), True)
            self.assertIs(shows_break(case, told), True)
            self.assertIs(comes_right(case), False)


class Movers(unittest.TestCase):
    def test_what_comes_right_by_some_does_so_by_one_and_all(self):
        rng = rng_of(29)
        many = 0
        for _ in range(400):
            table, right, _ = some_case(rng, 64, "some")
            told = {movers: comes_right((table, right, movers)) for movers in MOVERS}
            self.assertTrue(not told["some"] or told["one"] and told["all"])
            self.assertTrue(not told["one"] or told["turn"])
            if told["some"]:
                many += len(cases.wrong_of((table, right, "some"))) > 0
                ranks = verdict((table, right, "some"))[1]
                for movers in ("one", "all", "some"):
                    self.assertIs(shows_ranks((table, right, movers), ranks), True)
        self.assertGreater(many, 20)
