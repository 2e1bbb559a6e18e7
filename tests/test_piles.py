"""[21]: piles, their deeds, parted runs."""

import unittest

from comeright.errors import NoPile, NoRun, NoScene
from comeright.layers.joined import joined
from comeright.layers.piles import is_pile, is_pile_deed, is_pile_right, parted, pile_behind, piled
from comeright.plain.plain import plain_tells
from comeright.plain.reach import reach
from comeright.plans.made import MADE, made_plan
from comeright.runs.even import even_wave
from comeright.runs.runs import behind, is_run
from comeright.runs.waves import waves
from comeright.scenes.deeds import is_deed
from comeright.scenes.scenes import flat_scene, is_right, plain_of, right_scene, tells
from tests import model
from tests.samples import LEAST, LINE, ODD, PLANS, STILL, WALKS, rng_of, some_deed, some_parts, some_row, some_scene, spoiled

LOW = right_scene((LEAST, STILL), LINE, (5, 9, 3, 7), (0, 1, 0, 1))
HIGH = right_scene((WALKS, LEAST), LINE, tells(LOW), (0, 1, 0, 1))
PILE = (LOW, HIGH)
ROW = (1, 2, 3, 4)


def some_upper(rng, web):
    """A scene of this web in which anything stands."""
    scene = some_scene(rng, 1)
    plans, many = scene[0], len(scene[4][0])
    ways = sorted(list(web[1]) + [(b, a) for a, b in web[1]])
    return (
        plans, web, some_row(rng, web[0]), tuple(rng.randrange(len(plans)) for _ in range(web[0])),
        tuple(some_row(rng, many) for _ in range(web[0])), tuple((s, u, some_row(rng, many)) for s, u in ways),
        tuple((s, u, tuple(some_row(rng, many) for _ in range(rng.randrange(3)))) for s, u in ways),
    )


def some_pile(rng):
    lower = some_scene(rng, 4)
    return piled(lower, some_upper(rng, lower[1]))


def some_pile_deed(rng, pile, changes):
    while True:
        which = rng.choice(("lower", "lower", "upper"))
        deed = some_deed(rng, pile[which == "upper"], changes)
        if deed[0] not in (("put", "cut") if which == "lower" else ("word", "put", "cut")):
            return (which, deed)


def behind_one(pile, thing):
    """The pile behind one deed, word by word."""
    lower, upper = pile
    if thing[0] == "upper":
        return (lower, model.behind(upper, thing[1]))
    lower = model.behind(lower, thing[1])
    return (lower, upper[:2] + (told_by(lower),) + upper[3:])


def told_by(scene):
    return tuple(row[len(scene[0][number][1])] for row, number in zip(scene[4], scene[3]))


def some_pile_run(rng, pile, many, changes):
    deeds = []
    for _ in range(many):
        deeds.append(some_pile_deed(rng, pile, changes))
        pile = behind_one(pile, deeds[-1])
    return tuple(deeds), pile


class Piles(unittest.TestCase):
    def test_piled(self):
        upper = flat_scene((WALKS,), LINE, (0, 0, 0, 0), (0,) * 4)
        self.assertEqual(piled(LOW, upper), (LOW, upper[:2] + (tells(LOW),) + upper[3:]))
        self.assertEqual(piled(LOW, HIGH), PILE)
        self.assertEqual(piled(LOW, LOW), (LOW, LOW[:2] + (tells(LOW),) + LOW[3:]))
        self.assertIs(is_pile(piled(LOW, upper)), True)

    def test_unlike_webs(self):
        for web in ((4, ((0, 1), (1, 2))), (5, LINE[1]), (4, ())):
            other = flat_scene((WALKS,), web, (0,) * web[0], (0,) * web[0])
            for pair in ((LOW, other), (other, HIGH)):
                self.assertRaises(NoPile, piled, *pair)
            self.assertIs(is_pile((LOW, other[:2] + (tells(LOW) + (0,),)[:1] + other[3:])), False)

    def test_piles_and_near_piles(self):
        self.assertIs(is_pile(PILE), True)
        for thing in (
            PILE[:1], PILE + (HIGH,), list(PILE), (LOW,), (HIGH, LOW), (LOW, HIGH[:2] + ((5, 9, 3, 8),) + HIGH[3:]),
            (LOW, HIGH[:6]), (LOW[:6], HIGH), (LOW, None), (None, HIGH), LOW, (LOW, list(HIGH)), {"lower": LOW, "upper": HIGH},
        ):
            self.assertIs(is_pile(thing), False)
        for thing in ODD:
            self.assertIs(is_pile(thing), False)
        for thing in list(spoiled(PILE))[::41]:
            self.assertIs(is_pile(thing), False)
        # What the lower tells is what it has, be it right or not.
        bad = LOW[:4] + (((0,) * 4,) * 4,) + LOW[5:]
        self.assertIs(is_pile((bad, HIGH)), False)
        self.assertIs(is_pile((bad, HIGH[:2] + ((0,) * 4,) + HIGH[3:])), True)

    def test_right(self):
        self.assertIs(is_pile_right(PILE), True)
        flat = flat_scene((LEAST, STILL), LINE, (5, 9, 3, 7), (0, 1, 0, 1))
        self.assertIs(is_pile_right(piled(flat, HIGH)), False)
        self.assertIs(is_pile_right(piled(LOW, flat_scene((WALKS,), LINE, (0,) * 4, (0,) * 4))), False)
        rng = rng_of(21)
        for _ in range(30):
            pile = some_pile(rng)
            self.assertIs(is_pile_right(pile), is_right(pile[0]) and is_right(pile[1]))

    def test_tells_what_the_joined_plan_tells(self):
        rng = rng_of(211)
        for _ in range(40):
            plans, web, words, _ = some_parts(rng, 6)
            lower = rng.choice((plans[0][:1] + (plans[0][1][:2],), made_plan(rng.choice(MADE), 3)))
            upper = rng.choice((plans[-1][:1] + (plans[-1][1][:2],), made_plan(rng.choice(MADE), 2)))
            goes = (0,) * web[0]
            below = right_scene((lower,), web, words, goes)
            pile = piled(below, right_scene((upper,), web, tells(below), goes))
            self.assertIs(is_pile_right(pile), True)
            self.assertEqual(tells(pile[1]), plain_tells((joined(lower, upper),), web, words, goes))


class Deeds(unittest.TestCase):
    def test_lower_and_upper(self):
        low = LOW[:6] + (((0, 1, (ROW,)),) + LOW[6][1:],)
        high = HIGH[:6] + (((0, 1, (ROW,)),) + HIGH[6][1:],)
        pile = (low, high)
        alone = ("strike", 0, (ROW, (ROW,), ((ROW,),), ((),)))
        put = ("put", 0, 2, (ROW, ROW, (), ()))
        for deed in (("reckon", 2), ("send", 1, 2), ("hear", 1, 0), ("lose", 0, 1, 0), ("double", 0, 1, 0), ("goes", 0, 1), alone):
            for which in ("lower", "upper"):
                self.assertIs(is_pile_deed(pile, (which, deed)), True, deed)
        self.assertIs(is_pile_deed(pile, ("lower", ("word", 2, 5))), True)
        for thing in (
            ("upper", ("word", 2, 5)), ("upper", ("word", 2, high[2][2])), ("lower", put), ("upper", put),
            ("lower", ("cut", 0, 1)), ("upper", ("cut", 0, 1)), ("lower", ("hear", 0, 1)), ("upper", ("hear", 0, 1)),
            ("lower", ("goes", 0, 2)), ("lower", ("word", 4, 5)), ("lower",), ("lower", ("reckon", 0), 0), ("reckon", 0),
            ("middle", ("reckon", 0)), (0, ("reckon", 0)), (None, ("reckon", 0)), (["lower"], ("reckon", 0)),
            ["lower", ("reckon", 0)], ("lower", ["reckon", 0]), ("lower", ()), ("lower", None), ("lower", ([], 0)),
            ("upper", "reckon"), ("lower", ("upper", ("reckon", 0))),
        ):
            self.assertIs(is_pile_deed(pile, thing), False, thing)
            with self.assertRaises(NoRun) as told:
                pile_behind(pile, (("lower", ("reckon", 0)), thing))
            self.assertEqual(told.exception.at, 1)
        for thing in ODD:
            self.assertIs(is_pile_deed(pile, thing), False)
        for thing in spoiled(("lower", ("double", 0, 1, 0))):
            self.assertIs(is_pile_deed(pile, thing), False)

    def test_the_width_is_that_of_the_own_scene(self):
        narrow = flat_scene((STILL,), LINE, (0,) * 4, (0,) * 4)
        pile = piled(LOW, narrow)
        for which, row in (("lower", ROW), ("upper", (7,))):
            strike = ("strike", 0, (row, (row,), ((),), ((row,),)))
            self.assertIs(is_pile_deed(pile, (which, strike)), True)
            self.assertIs(is_pile_deed(pile, ("upper" if which == "lower" else "lower", strike)), False)

    def test_words_are_what_is_told(self):
        rng = rng_of(212)
        for _ in range(25):
            pile = first = some_pile(rng)
            deeds = ()
            for _ in range(25):
                thing = some_pile_deed(rng, pile, 25)
                self.assertIs(is_pile_deed(pile, thing), True)
                self.assertIs(is_deed(pile[thing[0] == "upper"], thing[1]), True)
                pile = behind_one(pile, thing)
                deeds += (thing,)
                told = pile_behind(first, deeds)
                self.assertEqual(told, pile)
                self.assertIs(is_pile(told), True)
                self.assertEqual(told[1][2], tells(told[0]))

    def test_deeds_that_make_a_seat_tell_otherwise(self):
        for deed, change in (
            (("word", 0, 1), ()), (("goes", 0, 1), (("word", 0, LOW[4][0][0]),)), (("goes", 0, 0), ()), (("reckon", 0), ()),
            (("strike", 0, (ROW, (ROW,), ((),), ((),))), (("word", 0, 4),)),
            (("strike", 0, ((1, 2, 3) + LOW[4][0][3:], (ROW,), ((),), ((),))), ()), (("send", 0, 1), ()),
        ):
            self.assertEqual(parted(PILE, (("lower", deed),)), ((deed,), change))
        two = (("lower", ("word", 1, 1)), ("upper", ("reckon", 2)), ("lower", ("reckon", 1)), ("upper", ("reckon", 1)))
        told = (("reckon", 2), ("word", 1, 3), ("reckon", 1))
        self.assertEqual(parted(PILE, two), ((("word", 1, 1), ("reckon", 1)), told))
        self.assertEqual(parted(PILE, two + (("lower", ("reckon", 1)),))[1], told)


class Parted(unittest.TestCase):
    def holds(self, pile, deeds, last):
        below, above = parted(pile, deeds)
        self.assertEqual(below, tuple(deed for which, deed in deeds if which == "lower"))
        self.assertEqual(tuple(d for d in above if d[0] != "word"), tuple(deed for which, deed in deeds if which == "upper"))
        self.assertIs(is_run(pile[0], below), True)
        self.assertIs(is_run(pile[1], above), True)
        self.assertEqual((behind(pile[0], below), behind(pile[1], above)), last)
        self.assertEqual(parted(pile, deeds), (below, above))

    def changes(self, pile, deeds):
        """The upper run, with a word put in just where a lower deed makes a seat tell otherwise."""
        told = []
        for which, deed in deeds:
            if which == "upper":
                told.append(deed)
                pile = behind_one(pile, (which, deed))
                continue
            words = pile[1][2]
            pile = behind_one(pile, (which, deed))
            told += [("word", s, new) for s, (old, new) in enumerate(zip(words, pile[1][2])) if old != new]
        return tuple(told)

    def test_runs_of_anything(self):
        rng = rng_of(213)
        put_in = 0
        for number in range(40):
            pile = some_pile(rng)
            deeds, last = some_pile_run(rng, pile, 40, (0, 30)[number % 2])
            self.holds(pile, deeds, last)
            self.assertEqual(pile_behind(pile, deeds), last)
            told = parted(pile, deeds)[1]
            self.assertEqual(told, self.changes(pile, deeds))
            put_in += len([d for d in told if d[0] == "word"])
        self.assertGreater(put_in, 50)

    def test_no_deeds(self):
        self.assertEqual(parted(PILE, ()), ((), ()))
        self.assertEqual(pile_behind(PILE, ()), PILE)

    def test_two_thousand_deeds(self):
        one = (("lower", ("goes", 0, 1)), ("lower", ("goes", 0, 0)))
        pile = pile_behind(PILE, (("lower", ("strike", 0, (ROW, (ROW,), ((),), ((),)))),))
        below, above = parted(pile, one * 1000)
        self.assertEqual((len(below), len(above)), (2000, 2000))
        self.assertIs(is_run(pile[0], below) and is_run(pile[1], above), True)
        mixed = (("lower", ("reckon", 1)), ("upper", ("send", 0, 1)), ("upper", ("reckon", 0)), ("lower", ("send", 1, 2))) * 500
        self.holds(PILE, mixed, pile_behind(PILE, mixed))
        for ask in (parted, pile_behind):
            for deeds, at in (
                (one * 1001, 2000), (one * 1000 + (None,), 2000), (one * 999 + (None,) * 3, 1998), (list(one), 0), (None, 0),
            ):
                with self.assertRaises(NoRun) as told:
                    ask(pile, deeds)
                self.assertEqual(told.exception.at, at)

    def test_come_right_one_behind_another(self):
        rng = rng_of(214)
        for _ in range(20):
            pile = first = some_pile(rng)
            low = 1 + max(max(row) for row in reach(pile[0][0], pile[0][1], pile[0][3]))
            high = 1 + max(max(row) for row in reach(pile[1][0], pile[1][1], pile[1][3]))
            deeds = ()
            for _ in range(low):
                deeds += tuple(("lower", deed) for deed in even_wave(pile[0]))
                deeds += tuple(("upper", ("reckon", rng.randrange(pile[0][1][0]))) for _ in range(3))
                pile = pile_behind(first, deeds)
            self.assertGreaterEqual(waves(first[0], parted(first, deeds)[0]), low)
            self.assertIs(is_right(pile[0]), True)
            since = len(parted(first, deeds)[1])
            stand = pile[1][2]
            for _ in range(high):
                deeds += tuple(("upper", deed) for deed in even_wave(pile[1]))
                deeds += (("lower", ("reckon", 0)),)
                pile = pile_behind(first, deeds)
                self.assertEqual(pile[1][2], stand)
            above = parted(first, deeds)[1]
            self.assertGreaterEqual(waves(behind(first[1], above[:since]), above[since:]), high)
            self.assertIs(is_pile_right(pile), True)
            self.assertEqual(pile[1][4], plain_of(pile[1]))


class Refused(unittest.TestCase):
    def test_scenes_then_webs(self):
        other = flat_scene(PLANS, (2, ()), (1, 2), (0, 0))
        for thing in ODD:
            self.assertRaises(NoScene, piled, thing, thing)
            self.assertRaises(NoScene, piled, LOW, thing)
            self.assertRaises(NoScene, piled, thing, other)

    def test_no_pile_then_no_run(self):
        for thing in ODD + ((LOW, LOW), (HIGH, LOW)):
            for ask in (is_pile_deed, pile_behind, parted):
                self.assertRaises(NoPile, ask, thing, thing)
                self.assertRaises(NoPile, ask, thing, ())
            self.assertRaises(NoPile, is_pile_right, thing)
        for thing in ODD:
            if thing != ():
                for ask in (pile_behind, parted):
                    with self.assertRaises(NoRun) as told:
                        ask(PILE, thing)
                    self.assertEqual(told.exception.at, 0)

    def test_each_deed_is_of_the_pile_that_it_meets(self):
        send, hear = ("lower", ("send", 0, 1)), ("lower", ("hear", 1, 0))
        upper = ("upper", ("hear", 1, 0))
        for deeds, at in (((send, hear, hear), 2), ((send, upper), 1), ((hear, send), 0), ((send, hear) * 3 + (hear,), 6)):
            with self.assertRaises(NoRun) as told:
                parted(PILE, deeds)
            self.assertEqual(told.exception.at, at)

    def test_what_is_handed_in_stays(self):
        rng = rng_of(215)
        pile = some_pile(rng)
        deeds, _ = some_pile_run(rng, pile, 30, 30)
        before = repr((pile, deeds))
        for ask in (pile_behind, parted):
            self.assertEqual(ask(pile, deeds), ask(pile, deeds))
        is_pile_right(pile)
        self.assertEqual(repr((pile, deeds)), before)
