"""[27], [28]: what is ranks, what is a break, and what is near these."""

import unittest

from comeright.cases.shown import shows_break, shows_ranks
from comeright.cases.verdicts import verdict
from comeright.tables.movers import nexts
from comeright.tables.tables import standings
from tests import cases
from tests.cases import DOWN, GRAY, MOVERS, ROUND_ALL, some_case
from tests.samples import ODD, rng_of, spoiled
from tests.tables import COPY, ROUND, made

ALIKE = ((0, 0), (1, 1))
# Of marks 0 to 3 each may go to any lesser one.
FALL = made(4, ((),), lambda seat, view: range(view[0]))
# Two seats, each of which may go one down.
BOTH = made(3, ((), ()), lambda seat, view: [view[0] - 1] if view[0] else [])


def is_form(case, ranks):
    """Whether these are of the forms that ranks have."""
    table, right, movers = case
    all_of = standings(table)
    if type(ranks) is not tuple or len(ranks) != len(all_of):
        return False
    for standing, rank in zip(all_of, ranks):
        if standing in right:
            if rank is not None:
                return False
        elif movers != "turn":
            if type(rank) is not int or rank < 0:
                return False
        elif type(rank) is not tuple or len(rank) != 2 or any(type(part) is not int or part < 0 for part in rank):
            return False
        elif rank[1] >= len(table[1]):
            return False
    return True


class Ranks(unittest.TestCase):
    def test_shown_where_told_and_never_both(self):
        rng = rng_of(27)
        for _ in range(200):
            case = some_case(rng, 81)
            told = verdict(case)
            self.assertIs(shows_ranks(case, told[1]), told[0] == "ranks")
            self.assertIs(shows_break(case, told), told[0] != "ranks")

    def test_by_hand(self):
        for movers in ("one", "some", "all"):
            case = (FALL, ((0,),), movers)
            for ranks in ((None, 0, 1, 2), (None, 5, 7, 10 ** 39)):
                self.assertIs(shows_ranks(case, ranks), True)
            for ranks in ((None, 0, 1, 1), (None, 1, 0, 2), (0, 0, 1, 2), (None, 0, 1, None), (None, -1, 0, 1), (None, 0, True, 2),
                          (None, False, 1, 2), [None, 0, 1, 2], (None, 0, 1), (None, 0, 1, 2, 3), (None, (0, 0), (1, 0), (2, 0)), None):
                self.assertIs(shows_ranks(case, ranks), False, ranks)
        case = (FALL, ((0,),), "turn")
        for ranks in ((None, (0, 0), (1, 0), (2, 0)), (None, (0, 0), (3, 0), (10 ** 39, 0))):
            self.assertIs(shows_ranks(case, ranks), True)
        for ranks in ((None, (0, 0), (1, 0), (1, 0)), (None, 0, 1, 2), (None, (0, 0), (1, 0), (2, 1)), (None, (0, 0), (1, 0), (2, -1)),
                      (None, (0, 0), (1, 0), (2, False)), (None, (False, 0), (1, 0), (2, 0)), (None, (0, 0), (1, 0), [2, 0]),
                      (None, (0, 0), (1, 0), (2, 0, 0)), (None, (0, 0), (1, 0), (2,)), (None, (0, 0), (1, 0), None),
                      ((0, 0), (0, 0), (1, 0), (2, 0)), (None, (0, 0), (1, 0), (2, None))):
            self.assertIs(shows_ranks(case, ranks), False, ranks)

    def test_by_turn_the_helper_counts(self):
        case = (BOTH, tuple(standing for standing in standings(BOTH) if standing[0] == 0), "turn")
        self.assertEqual(case[1], ((0, 0), (0, 1), (0, 2)))
        # Seat 0 is the helper; what seat 1 does may leave all as it is.
        ranks = (None,) * 3 + ((0, 0),) * 3 + ((1, 0),) * 3
        self.assertIs(shows_ranks(case, ranks), True)
        self.assertIs(shows_ranks(case, (None,) * 3 + ((1, 0),) * 3 + ((1, 0),) * 3), False)
        # Seat 1 isn't able where its mark is 0; elsewhere it does for a helper where numbers fall.
        self.assertIs(shows_ranks(case, ranks[:3] + ((0, 1),) + ranks[4:]), False)
        self.assertIs(shows_ranks(case, ranks[:4] + ((1, 1), (2, 1), (1, 0), (2, 1), (3, 1))), True)
        self.assertIs(shows_ranks(case, ranks[:4] + ((1, 1), (1, 1), (1, 0), (2, 1), (3, 1))), False)
        # Another helper of the same number will not do, unless the number falls.
        self.assertIs(shows_ranks(case, ranks[:4] + ((0, 1),) + ranks[5:]), False)
        self.assertIs(shows_ranks(case, ranks[:4] + ((1, 1), (1, 0)) + ((5, 0),) * 3), False)

    def test_rights_must_stay_right(self):
        for movers in MOVERS:
            self.assertIs(shows_ranks((ROUND, ((0,), (1,), (2,)), movers), (None,) * 3), True)
            rank = (0, 0) if movers == "turn" else 0
            self.assertIs(shows_ranks((ROUND, ((0,), (1,)), movers), (None, None, rank)), False)
            self.assertIs(shows_ranks((COPY, ALIKE[:1], movers), (None, rank, rank, rank)), False)

    def test_near_ranks(self):
        rng = rng_of(271)
        told = []
        while len(told) < 400:
            case = some_case(rng, 27)
            mark, ranks = verdict(case)[:2]
            wrong = [at for at, standing in enumerate(standings(case[0])) if standing not in case[1]]
            if mark != "ranks" or not wrong:
                continue
            at = rng.choice(wrong)
            rank = ranks[at]
            if case[2] == "turn":
                near = [(rank[0] + 1, rank[1]), (rank[0] - 1, rank[1]), (None, rank[1]), (rank[0], None), list(rank), rank[0],
                        (rank[0] == 1, rank[1]), (rank[0], rank[1] == 1)] + [(rank[0], seat) for seat in range(7)]
            else:
                near = [rank + 1, rank - 1, rank == 1, None, (rank, 0), str(rank), [rank]]
            for other in near + [None]:
                thing = ranks[:at] + (other,) + ranks[at + 1:]
                told.append(shows_ranks(case, thing))
                self.assertIs(told[-1], is_form(case, thing) and cases.is_ranks(case, thing), (case, thing))
            for thing in (list(ranks), ranks + (None,), ranks[1:], ranks[::-1], ("ranks", ranks), None, {}):
                self.assertIs(shows_ranks(case, thing), is_form(case, thing) and cases.is_ranks(case, thing))
        self.assertGreater(min(told.count(True), told.count(False)), 40)

    def test_anything(self):
        for movers in MOVERS:
            for thing in ODD + (("stuck", (0, 0)),):
                self.assertIs(shows_ranks((COPY, ALIKE, movers), thing), False)
                self.assertIs(shows_break((COPY, ALIKE, movers), thing), False)
                self.assertIs(shows_break((COPY, ALIKE[:1], movers), thing), False)

    def test_729_that_go_down(self):
        for movers in MOVERS:
            case = (DOWN, (GRAY[-1],), movers)
            ranks = verdict(case)[1]
            self.assertIs(shows_ranks(case, ranks), True)
            place = standings(DOWN).index(GRAY[300])
            for number in (426, 428):
                near = (number, ranks[place][1]) if movers == "turn" else number
                self.assertIs(shows_ranks(case, ranks[:place] + (near,) + ranks[place + 1:]), False)


class Breaks(unittest.TestCase):
    def test_stuck_and_left(self):
        for movers in MOVERS:
            case = (COPY, ALIKE[:1], movers)
            self.assertIs(shows_break(case, ("stuck", (1, 1))), True)
            for thing in (("stuck", (0, 0)), ("stuck", (0, 1)), ("stuck", [1, 1]), ("stuck", (1, True)), ["stuck", (1, 1)], ("stuck",),
                          ("stuck", (1, 1), None), ("Stuck", (1, 1)), ("left", (1, 1)), ("stuck", (1, 2)), ("stuck", 3), ("stuck", ())):
                self.assertIs(shows_break(case, thing), False, thing)
            case = (ROUND, ((0,),), movers)
            self.assertIs(shows_break(case, ("left", (0,), (1,))), True)
            for thing in (("left", (0,), (2,)), ("left", (1,), (2,)), ("left", (2,), (0,)), ("left", (0,), (0,)), ("left", (0,), [1]),
                          ("left", (0,), (True,)), ("left", (False,), (1,)), ("left", (0,)), ("left", (0,), (1,), (2,)), ("ring", (0,), (1,)),
                          ("stuck", (0,), (1,)), ("left", ((0,), (1,))), ("left", (0,), None), ("left", (0,), (3,))):
                self.assertIs(shows_break(case, thing), False, thing)

    def test_rings_turned_and_gone_round_twice(self):
        for movers in MOVERS:
            case = (ROUND, (), movers)
            ring = ((0,), (1,), (2,))
            for thing in (ring, ring[1:] + ring[:1], ring * 2, ring[2:] + ring + ring[:2], ring * 300):
                self.assertIs(shows_break(case, ("ring", thing)), cases.is_ring(case, thing), thing)
            self.assertIs(shows_break(case, ("ring", ring * 300)), True)
            for thing in (ring[::-1], ring[:2], ring[:1], ring + ring[:1], list(ring), ((0,), [1], (2,)), ((0,), (True,), (2,)),
                          ((False,), (1,), (2,)), (), None, (0,), 0, ((0,), None), ((0,), (1,), (3,)), ("ring", ring)):
                self.assertIs(shows_break(case, ("ring", thing)), False, thing)
            self.assertIs(shows_break(case, ("ring",)), False)
            self.assertIs(shows_break(case, ("ring", ring, ring)), False)
            self.assertIs(shows_break(case, ["ring", ring]), False)
            # With a right standing in it.
            self.assertIs(shows_break((ROUND, ((2,),), movers), ("ring", ring)), False)

    def test_by_turn_each_seat_moves_or_is_not_able_once(self):
        both = (3, (((), ((1,), (2,), (0,))),) * 2)
        alone = ((0, 0), (1, 0), (2, 0))
        together = ((0, 0), (1, 0), (2, 0), (0, 0), (0, 1), (0, 2))
        self.assertIs(shows_break((both, (), "one"), ("ring", alone)), True)
        self.assertIs(shows_break((both, (), "turn"), ("ring", alone)), False)
        for at in range(6):
            for movers in ("one", "turn", "some"):
                self.assertIs(shows_break((both, (), movers), ("ring", together[at:] + together[:at])), True)
        self.assertIs(shows_break((both, (), "all"), ("ring", ((0, 0), (1, 1), (2, 2)))), True)
        # The other one isn't able where its mark is 0.
        other = (3, (((), ((1,), (2,), (0,))), ((), ((), (0,), (0,)))))
        self.assertIs(shows_break((other, (), "turn"), ("ring", alone)), True)
        self.assertIs(shows_break((other, (), "turn"), ("ring", tuple((mark, 1) for mark in range(3)))), False)
        # The last step back counts, too: of two seats that each go to and fro once.
        pair = (2, (((), ((1,), (0,))),) * 2)
        self.assertIs(shows_break((pair, (), "turn"), ("ring", ((0, 0), (1, 0), (1, 1), (0, 1)))), True)
        self.assertIs(shows_break((pair, (), "turn"), ("ring", ((0, 0), (1, 0)))), False)

    def test_near_rings(self):
        rng = rng_of(28)
        told = []
        while len(told) < 600:
            case = some_case(rng, 27, closed=True)
            mark, ring = verdict(case)[:2]
            if mark != "ring":
                continue
            self.assertIs(shows_break(case, ("ring", ring[::-1])), cases.is_ring(case, ring[::-1]))
            for _ in range(8):
                at, other = rng.randrange(len(ring)), rng.choice(standings(case[0]))
                cut = rng.randrange(len(ring) + 1)
                for thing in (ring[:at] + (other,) + ring[at + 1:], ring[:at] + ring[at + 1:], ring[cut:] + ring[:cut], ring * 2,
                              ring[:cut] + (other,) + ring[cut:]):
                    told.append(shows_break(case, ("ring", thing)))
                    self.assertIs(told[-1], cases.is_ring(case, thing))
                for thing in (list(ring), (list(ring[0]),) + ring[1:], (ring[0] + (0,),) + ring[1:], (ring[0][1:],) + ring[1:], ring[0]):
                    self.assertIs(shows_break(case, ("ring", thing)), False)
        self.assertGreater(min(told.count(True), told.count(False)), 100)

    def test_all_stuck_and_left_of_a_case(self):
        rng = rng_of(281)
        for _ in range(60):
            case = some_case(rng, 16, closed=False)
            for standing in standings(case[0]):
                later = nexts(case[0], standing, case[2])
                self.assertIs(shows_break(case, ("stuck", standing)), not later and standing not in case[1])
                for other in standings(case[0]):
                    left = standing in case[1] and other in later and other not in case[1]
                    self.assertIs(shows_break(case, ("left", standing, other)), left)

    def test_parts_of_other_kinds(self):
        for case, good in (((COPY, ALIKE[:1], "one"), ("stuck", (1, 1))), ((ROUND, ((0,),), "all"), ("left", (0,), (1,))),
                           ((ROUND, (), "turn"), ("ring", ((0,), (1,), (2,))))):
            self.assertIs(shows_break(case, good), True)
            for thing in spoiled(good):
                self.assertIs(shows_break(case, thing), False, thing)

    def test_729_that_go_round(self):
        way = tuple(GRAY)
        for movers in MOVERS:
            case = (ROUND_ALL, (), movers)
            for thing in (way, way[400:] + way[:400], way * 2):
                self.assertIs(shows_break(case, ("ring", thing)), True)
            for thing in (way[::-1], way[1:], way[:-1], way + way[:1], way[:300] + way[301:]):
                self.assertIs(shows_break(case, ("ring", thing)), False)
            self.assertIs(shows_break((ROUND_ALL, (min(way),), movers), ("ring", way)), False)
