"""[31]: the most steps, the least ranks, papers."""

import unittest

from comeright.cases.longest import least_ranks, longest, most_from, shows_longest
from comeright.cases.shown import shows_ranks
from comeright.cases.verdicts import comes_right, verdict
from comeright.errors import NoCase, NoStanding, TooWide
from comeright.tables.tables import standings
from tests import cases
from tests.cases import DOWN, GRAY, ROUND_ALL, SOME_MORE, some_case, with_nexts
from tests.samples import ODD, rng_of, spoiled
from tests.tables import COPY, ROUND, STILL, made
from tests.test_cases import near_cases
from tests.test_shown import FALL

ALIKE = ((0, 0), (1, 1))
OTHERS = ("one", "some", "all")


def most(case):
    """The most steps of each standing, by walking all walks: None where one has no end or no right one at it."""
    near = cases.graph(case)
    told = {standing: 0 for standing in case[1]}
    wrong = cases.wrong_of(case)
    for _ in wrong:
        for standing in wrong:
            if standing not in told and near[standing] and near[standing] <= set(told):
                told[standing] = 1 + max(told[later] for later in near[standing])
    return told


def is_paper(case, thing):
    """Whether it is a paper of a case that comes right, word by word; of a fitting form."""
    number, walk, ranks = thing
    near = cases.graph(case)
    if len(walk) != number + 1 or any(later not in near[standing] for standing, later in zip(walk, walk[1:])):
        return False
    if [standing in case[1] for standing in walk] != [False] * number + [True]:
        return False
    return cases.is_ranks(case, ranks) and all(rank is None or rank < number for rank in ranks)


class Longest(unittest.TestCase):
    def test_by_hand(self):
        for movers in OTHERS:
            case = (FALL, ((0,),), movers)
            self.assertEqual([most_from(case, (mark,)) for mark in range(4)], [0, 1, 2, 3])
            self.assertEqual(least_ranks(case), (None, 0, 1, 2))
            self.assertEqual(longest(case), (3, ((3,), (2,), (1,), (0,)), (None, 0, 1, 2)))
            for case in ((ROUND, ((0,),), movers), (ROUND, (), movers), (COPY, ALIKE[:1], movers)):
                self.assertIs(longest(case), None)
                self.assertIs(least_ranks(case), None)
                self.assertIs(most_from(case, standings(case[0])[0]), None)
                self.assertIs(shows_longest(case, None), True)
                for thing in ODD:
                    self.assertIs(shows_longest(case, thing), thing is None)

    def test_all_right(self):
        for movers in OTHERS:
            case = (ROUND, standings(ROUND), movers)
            number, walk, ranks = longest(case)
            self.assertEqual((number, ranks), (0, (None,) * 3))
            for walk in (((0,),), ((1,),), ((2,),)):
                self.assertIs(shows_longest(case, (0, walk, ranks)), True)
            for thing in ((0, (), ranks), (1, ((0,), (1,)), ranks), (0, ((3,),), ranks), (0, ((0,), (1,)), ranks), (False, walk, ranks),
                          (0, walk, (0, None, None)), None):
                self.assertIs(shows_longest(case, thing), False)

    def test_against_the_model(self):
        rng = rng_of(31)
        told = []
        for _ in range(300):
            case = some_case(rng, 81, rng.choice(OTHERS))
            before = repr(case)
            want = most(case)
            told.append(comes_right(case))
            all_of = standings(case[0])
            for standing in rng.sample(all_of, min(5, len(all_of))):
                self.assertEqual(most_from(case, standing), want[standing] if told[-1] else None)
            if not told[-1]:
                self.assertIs(longest(case), None)
                self.assertIs(least_ranks(case), None)
                continue
            ranks = tuple(want[standing] - 1 if want[standing] else None for standing in all_of)
            self.assertEqual(least_ranks(case), ranks)
            paper = longest(case)
            self.assertEqual((paper[0], paper[2]), (max(want.values()), ranks))
            self.assertIs(is_paper(case, paper), True)
            self.assertIs(shows_longest(case, paper), True)
            self.assertEqual(longest(case), paper)
            self.assertEqual(repr(case), before)
        self.assertGreater(min(told.count(True), told.count(False)), 40)

    def test_no_rank_can_be_less(self):
        rng = rng_of(311)
        many = 0
        for _ in range(150):
            case = some_case(rng, 27, rng.choice(OTHERS))
            ranks = least_ranks(case)
            if ranks is None:
                continue
            self.assertIs(shows_ranks(case, ranks), True)
            others = verdict(case)[1]
            for at, rank in enumerate(ranks):
                if rank is not None:
                    many += 1
                    self.assertLessEqual(rank, others[at])
                    self.assertIs(shows_ranks(case, ranks[:at] + (rank - 1,) + ranks[at + 1:]), False)
        self.assertGreater(many, 100)

    def test_near_papers(self):
        rng = rng_of(312)
        told = []
        while len(told) < 2500:
            case = some_case(rng, 27, rng.choice(OTHERS))
            paper = longest(case)
            if paper is None or paper[0] == 0:
                continue
            number, walk, ranks = paper
            wrong = [at for at, rank in enumerate(ranks) if rank is not None]
            at, place = rng.choice(wrong), rng.randrange(len(walk))
            other = rng.choice(standings(case[0]))
            for thing in (
                (number, walk[:place] + (other,) + walk[place + 1:], ranks), (number - 1, walk[1:], ranks), (number + 1, walk, ranks),
                (number, walk, ranks[:at] + (ranks[at] + 1,) + ranks[at + 1:]), (number, walk, ranks[:at] + (ranks[at] - 1,) + ranks[at + 1:]),
                (number - 1, walk, ranks), (number, walk[:-1], ranks), (number, walk + (other,), ranks), (number, walk[1:], ranks),
                (number + 1, (other,) + walk, ranks), (number, walk, tuple(rank if rank is None else rank + 1 for rank in ranks)),
            ):
                fits = thing[0] >= 0 and all(rank is None or rank >= 0 for rank in thing[2])
                told.append(fits and is_paper(case, thing))
                self.assertIs(shows_longest(case, thing), told[-1], (case, thing))
            for thing in (
                list(paper), paper + (None,), paper[:2], (number, list(walk), ranks), (number, walk, list(ranks)), (str(number), walk, ranks),
                (number, walk[:-1] + (list(walk[-1]),), ranks), (None, walk, ranks), (number, None, ranks), (number, walk, None), None,
                (number, walk[:-1] + (walk[-1] + (0,),), ranks), (number == 1, walk, ranks), (10 ** 39, walk, ranks), (-1, (), ranks),
            ):
                self.assertIs(shows_longest(case, thing), False)
        self.assertGreater(min(told.count(True), told.count(False)), 20)

    def test_parts_of_other_kinds(self):
        for movers in OTHERS:
            case = (FALL, ((0,),), movers)
            for thing in spoiled(longest(case)):
                self.assertIs(shows_longest(case, thing), repr(thing) == repr(longest(case)), thing)
            self.assertIs(shows_longest(case, (3, ((3,), (2,), (1,), (0,)), (None, 0, 1, 2))), True)
            self.assertIs(shows_longest(case, (2, ((3,), (2,), (0,)), (None, 0, 1, 2))), False)
            self.assertIs(shows_longest(case, (3, ((3,), (2,), (True,), (0,)), (None, 0, 1, 2))), False)
            self.assertIs(shows_longest(case, (3, ((3,), (2,), (1,), (0,)), (None, False, True, 2))), False)

    def test_ranks_need_not_be_the_least(self):
        # Down from 3 in three steps, from 4 in one: 4 may have any rank below 3.
        table = made(5, ((),), lambda seat, view: {0: (), 4: (0,)}.get(view[0], (view[0] - 1,)))
        for movers in OTHERS:
            case = (table, ((0,),), movers)
            self.assertEqual(least_ranks(case), (None, 0, 1, 2, 0))
            for rank in range(5):
                self.assertIs(shows_longest(case, (3, ((3,), (2,), (1,), (0,)), (None, 0, 1, 2, rank))), rank < 3)

    def test_729_that_go_down(self):
        for movers in OTHERS:
            case = (DOWN, (GRAY[-1],), movers)
            self.assertEqual(most_from(case, GRAY[0]), 728)
            self.assertEqual(most_from(case, GRAY[500]), 228)
            self.assertEqual(longest(case)[:2], (728, tuple(GRAY)))
            self.assertIs(shows_longest(case, longest(case)), True)
            self.assertIs(shows_longest(case, (727, tuple(GRAY[1:]), least_ranks(case))), False)
            self.assertIs(longest((ROUND_ALL, (), movers)), None)


class Refused(unittest.TestCase):
    def test_no_case_and_by_turn(self):
        for thing in list(ODD) + list(near_cases()) + [(COPY, ALIKE, "turn"), (STILL, standings(STILL), "turn")]:
            for ask in (least_ranks, longest):
                self.assertRaises(NoCase, ask, thing)
            for other in ((0, 0), None, (5,)):
                self.assertRaises(NoCase, most_from, thing, other)
                self.assertRaises(NoCase, shows_longest, thing, other)

    def test_no_standing_then_too_wide(self):
        for thing in ODD + ((0, 2), (0,), [0, 0], (0, True), (False, 0)):
            if thing != (0, 0):
                self.assertRaises(NoStanding, most_from, (COPY, ALIKE, "one"), thing)
        wide = (with_nexts("some", SOME_MORE), (), "some")
        self.assertRaises(NoStanding, most_from, wide, (0,) * 5)
        for ask in (least_ranks, longest, lambda case: most_from(case, (0,) * 6), lambda case: shows_longest(case, None)):
            with self.assertRaises(TooWide) as told:
                ask(wide)
            self.assertEqual(told.exception.most, 20000)
