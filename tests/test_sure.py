"""[13], [14]: sure levels along runs, and that they are right."""

import unittest

from comeright.errors import NoRun, NoScene, NotRight
from comeright.plain.reach import reach
from comeright.runs.runs import behind
from comeright.runs.sure import sure, sure_tells
from comeright.runs.waves import waves
from comeright.scenes.scenes import flat_scene, plain_of, right_scene
from tests import model
from tests.samples import LEAST, LINE, ODD, PLANS, STAR, rng_of, some_row, some_run, some_scene, some_wavy_run, two_ways

# Of four seats in a line: level i of a seat reaches i steps, or as far as there are ways.
SCENE = right_scene((LEAST,), LINE, (5, 9, 3, 7), (0,) * 4)
ROW = SCENE[4][0]
EDGES = ((0, 1), (1, 0), (1, 2), (2, 1), (2, 3), (3, 2))
WAVE = (
    tuple(("reckon", s) for s in range(4)) + tuple(("send", s, u) for s, u in EDGES) + tuple(("hear", u, s) for s, u in EDGES)
)


def lying(scene, many):
    """The scene with so many letters on each road, each its sender's row."""
    return scene[:6] + (tuple((s, u, (scene[4][s],) * many) for s, u in two_ways(scene[1])),)


class Numbers(unittest.TestCase):
    def told(self, deeds, rows, copies=None, roads=None, *, scene=SCENE, right=False):
        start = 4 if right else 0
        copies = copies or {}
        roads = roads or {}
        ways = two_ways(behind(scene, deeds)[1])
        letters = {(s, u): row for s, u, row in behind(scene, deeds)[6]}
        self.assertEqual(sure(scene, deeds, right=right), (
            rows, tuple((s, u, copies.get((s, u), start)) for s, u in ways),
            tuple((s, u, roads.get((s, u), (start,) * len(letters[s, u]))) for s, u in ways),
        ))

    def test_starts(self):
        self.told((), (0,) * 4)
        self.told((), (4,) * 4, right=True)
        self.told((), (0,) * 4, scene=lying(SCENE, 2))
        self.told((), (4,) * 4, scene=lying(SCENE, 8), right=True)
        self.assertEqual(sure(lying(SCENE, 2), (), right=True)[2], tuple((s, u, (4, 4)) for s, u in EDGES))

    def test_reckon(self):
        # Level 1 looks at copies of which nothing is sure.
        self.told((("reckon", 1),), (0, 1, 0, 0))
        self.told((("reckon", 1),), (4,) * 4, right=True)

    def test_plans_that_do_not_look(self):
        own = ("plus", ("own",), 1)
        for nexts, number in (
            ((own, own, own), 4), ((own, own, ("sum",)), 3), ((own, ("most",), own), 2), ((("many", 3), own, own), 1),
            ((), 4), ((own,), 4), ((("least",),), 1),
        ):
            plans = ((("word",), nexts), LEAST)
            scene = right_scene(plans, LINE, (5, 9, 3, 7), (0,) * 4)
            self.assertEqual(sure(scene, (("reckon", 1),))[0], (0, number, 0, 0), nexts)

    def test_a_seat_without_neighbours(self):
        scene = flat_scene((LEAST,), (2, ()), (5, 9), (0, 0))
        self.assertEqual(sure(scene, (("reckon", 1),)), ((0, 4), (), ()))
        self.assertEqual(sure(scene, (("reckon", 1), ("strike", 1, (ROW, (), (), ()))))[0], (0, 0))

    def test_all_copies_are_looked_at(self):
        one = (("reckon", 0), ("send", 0, 1), ("hear", 1, 0), ("reckon", 1))
        self.told(one, (1, 1, 0, 0), {(1, 0): 1})
        self.told(one + (("reckon", 2), ("send", 2, 1), ("reckon", 1)), (1, 1, 1, 0), {(1, 0): 1}, {(2, 1): (1,)})
        two = one + (("reckon", 2), ("send", 2, 1), ("hear", 1, 2), ("reckon", 1))
        self.told(two, (1, 2, 1, 0), {(1, 0): 1, (1, 2): 1})

    def test_a_letter_has_what_its_row_had_as_it_was_sent(self):
        deeds = (("send", 1, 0), ("reckon", 1), ("send", 1, 0))
        self.told(deeds, (0, 1, 0, 0), {}, {(1, 0): (0, 1)})
        self.told(deeds + (("hear", 0, 1),), (0, 1, 0, 0), {}, {(1, 0): (1,)})
        self.told(deeds + (("hear", 0, 1),) * 2, (0, 1, 0, 0), {(0, 1): 1})

    def test_lost_and_doubled(self):
        deeds = (("send", 1, 0), ("reckon", 1), ("send", 1, 0))
        self.told(deeds + (("lose", 1, 0, 0),), (0, 1, 0, 0), {}, {(1, 0): (1,)})
        self.told(deeds + (("lose", 1, 0, 1),), (0, 1, 0, 0), {}, {(1, 0): (0,)})
        self.told(deeds + (("double", 1, 0, 0),), (0, 1, 0, 0), {}, {(1, 0): (0, 0, 1)})
        self.told(deeds + (("double", 1, 0, 1),), (0, 1, 0, 0), {}, {(1, 0): (0, 1, 1)})

    def test_full_roads(self):
        full = lying(SCENE, 8)
        self.told((("reckon", 1), ("send", 1, 0)), (0, 1, 0, 0), scene=full)
        self.told((("reckon", 1), ("lose", 1, 0, 3), ("send", 1, 0)), (0, 1, 0, 0), {}, {(1, 0): (0,) * 7 + (1,)}, scene=full)

    def test_waves(self):
        for many in range(6):
            number = min(many, 4)
            self.told(WAVE * many, (number,) * 4, dict.fromkeys(EDGES, number))


class Changes(unittest.TestCase):
    def numbers(self, deed, rows, *, scene=SCENE, right=True):
        """Each copy and each letter of a seat has what its row has: all stood alike ahead of the change."""
        told = sure(scene, (deed,), right=right)
        web = behind(scene, (deed,))[1]
        self.assertEqual(told[0], rows)
        self.assertEqual(told[1], tuple((s, u, rows[u]) for s, u in two_ways(web)))
        letters = {(s, u): len(row) for s, u, row in behind(scene, (deed,))[6]}
        self.assertEqual(told[2], tuple((s, u, (rows[s],) * letters[s, u]) for s, u in two_ways(web)))

    def test_near_and_far(self):
        for scene in (SCENE, lying(SCENE, 2)):
            # Three steps away just the levels that reach less than three are as they were.
            self.numbers(("word", 0, 1), (0, 1, 2, 3), scene=scene)
            self.numbers(("word", 0, 5), (0, 1, 2, 3), scene=scene)
            self.numbers(("goes", 2, 0), (2, 1, 0, 1), scene=scene)
            self.numbers(("word", 1, 1), (1, 0, 1, 2), scene=scene)
            self.numbers(("word", 0, 1), (0, 0, 0, 0), scene=scene, right=False)

    def test_plans_of_little_reach(self):
        scene = right_scene((LEAST[:1] + (LEAST[1][:1],),), LINE, (5, 9, 3, 7), (0,) * 4)
        self.numbers(("word", 0, 1), (0, 1, 2, 2), scene=scene)
        self.numbers(("word", 3, 7), (2, 2, 1, 0), scene=scene)

    def test_where_no_way_leads(self):
        scene = right_scene((LEAST,), (4, ((0, 1), (2, 3))), (5, 9, 3, 7), (0,) * 4)
        self.numbers(("word", 0, 1), (0, 1, 4, 4), scene=scene)
        self.numbers(("cut", 0, 1), (0, 0, 4, 4), scene=scene)

    def test_by_the_web_behind_it(self):
        # Behind the cut no way leads from 2 and 3 to 0 but through 1.
        self.numbers(("cut", 1, 2), (1, 0, 0, 1))
        self.numbers(("cut", 2, 3), (2, 1, 0, 0))
        put = ("put", 0, 3, (ROW, ROW, (ROW,), (ROW, ROW)))
        told = sure(SCENE, (put,), right=True)
        self.assertEqual(told[0], (0, 1, 1, 0))
        self.assertIn((0, 3, 0), told[1])
        self.assertIn((0, 3, (0,)), told[2])
        self.assertIn((3, 0, (0, 0)), told[2])

    def test_by_the_goes_behind_it(self):
        plans = (LEAST, (("word",), (("own",), ("own",), ("own",))))
        scene = right_scene(plans, LINE, (5, 9, 3, 7), (0, 0, 0, 0))
        # By the plan that doesn't look, seat 1 keeps all its levels from what lies beyond it.
        self.assertEqual(sure(scene, (("goes", 1, 1),), right=True)[0], (1, 0, 1, 2))
        looked = right_scene(plans, LINE, (5, 9, 3, 7), (0, 1, 0, 0))
        self.assertEqual(sure(looked, (("word", 0, 1),), right=True)[0], (0, 4, 2, 3))
        self.assertEqual(sure(looked, (("goes", 1, 0), ("word", 0, 1)), right=True)[0], (0, 0, 1, 2))

    def test_what_a_put_brings(self):
        scene = right_scene((LEAST,), (2, ()), (5, 9), (0, 0))
        told = sure(scene, (("put", 0, 1, (ROW, ROW, (ROW,), ())), ("reckon", 0), ("hear", 1, 0)), right=True)
        self.assertEqual(told, ((1, 0), ((0, 1, 0), (1, 0, 0)), ((0, 1, ()), (1, 0, ()))))

    def test_strike(self):
        deed = ("strike", 1, (ROW, (ROW, ROW), ((ROW,), ()), ((), (ROW, ROW))))
        told = sure(lying(SCENE, 1), (deed,), right=True)
        self.assertEqual(told[0], (4, 0, 4, 4))
        self.assertEqual(told[1], ((0, 1, 4), (1, 0, 0), (1, 2, 0), (2, 1, 4), (2, 3, 4), (3, 2, 4)))
        self.assertEqual(told[2], ((0, 1, ()), (1, 0, (0,)), (1, 2, ()), (2, 1, (0, 0)), (2, 3, (4,)), (3, 2, (4,))))

    def test_of_changes_the_web_of_their_moment_counts(self):
        deeds = (("word", 0, 1), ("cut", 0, 1), ("word", 0, 2))
        self.assertEqual(sure(SCENE, deeds[:2], right=True)[0], (0, 0, 1, 2))
        self.assertEqual(sure(SCENE, deeds, right=True)[0], (0, 0, 1, 2))
        self.assertEqual(sure(SCENE, (deeds[1], deeds[2]), right=True)[0], (0, 0, 1, 2))


class Tells(unittest.TestCase):
    def test_told_levels(self):
        scene = right_scene((LEAST, (("word",), ())), LINE, (5, 9, 3, 7), (0, 1, 0, 1))
        self.assertEqual(sure_tells(scene, ()), ())
        self.assertEqual(sure_tells(scene, (), right=True), (0, 1, 2, 3))
        self.assertEqual(sure_tells(scene, (("reckon", 0), ("reckon", 1))), (1,))
        self.assertEqual(sure_tells(SCENE, WAVE * 3), ())
        self.assertEqual(sure_tells(SCENE, WAVE * 4), (0, 1, 2, 3))
        self.assertEqual(sure_tells(SCENE, (("word", 0, 1),), right=True), ())
        # By which plan a seat goes at last is what counts.
        self.assertEqual(sure_tells(scene, (("goes", 0, 1), ("reckon", 0))), (0,))
        self.assertEqual(sure_tells(scene, (("reckon", 1), ("goes", 1, 1))), ())
        self.assertEqual(sure_tells(scene, (("goes", 0, 1), ("reckon", 0), ("reckon", 3))), (0, 3))


class Along(unittest.TestCase):
    """Against the numbers told anew, and against the plain run."""

    def holds(self, scene, deeds, right):
        told = sure(scene, deeds, right=right)
        self.assertEqual(told, model.sure(scene, deeds, right))
        last = model.all_behind(scene, deeds)
        plain = plain_of(last)
        rows, copies, roads = told
        for s, number in enumerate(rows):
            self.assertEqual(last[4][s][:number], plain[s][:number])
        for (s, u, number), (_, _, row) in zip(copies, last[5]):
            self.assertEqual(row[:number], plain[u][:number])
        for (s, u, numbers), (_, _, letters) in zip(roads, last[6]):
            for number, row in zip(numbers, letters):
                self.assertEqual(row[:number], plain[s][:number])
        tells = tuple(s for s, number in enumerate(rows) if number > len(last[0][last[3][s]][1]))
        self.assertEqual(sure_tells(scene, deeds, right=right), tells)
        return told

    def test_runs_of_anything(self):
        rng = rng_of(13)
        found = set()
        for number in range(60):
            scene = some_scene(rng, 4)
            make = some_run if number % 2 else some_wavy_run
            deeds = make(rng, scene, 40, rng.choice((0, 4, 25)))
            found.update(self.holds(scene, deeds, False)[0])
        self.assertGreater(len(found), 4)

    def test_right_starts(self):
        rng = rng_of(131)
        found = set()
        for number in range(60):
            scene = lying(right_scene(*some_scene(rng, 5)[:4]), rng.choice((0, 1, 8)))
            make = some_run if number % 2 else some_wavy_run
            deeds = make(rng, scene, 40, rng.choice((0, 4, 25)))
            found.update(self.holds(scene, deeds, True)[0])
            self.holds(scene, deeds, False)
        self.assertGreater(len(found), 4)

    def test_waves_make_sure(self):
        rng = rng_of(14)
        shown = set()
        for _ in range(60):
            scene = some_scene(rng, 5)
            web = scene[1]
            apart = tuple(s for s in range(web[0]) if rng.random() < 0.3)
            deeds = some_wavy_run(rng, scene, 80, 0)
            many = waves(scene, deeds, apart=apart)
            shown.add(many)
            rows, copies, roads = sure(scene, deeds)
            steps = model.far(web)
            for s, row in enumerate(reach(scene[0], web, scene[3])):
                away = [steps[s, u] for u in apart if steps[s, u] is not None]
                levels = [i for i, far in enumerate(row) if far < many and all(far < k for k in away)]
                self.assertEqual(levels, list(range(len(levels))))
                self.assertGreaterEqual(rows[s], len(levels))
                self.assertTrue(all(k >= len(levels) for u, v, k in copies if v == s and u not in apart))
                letters = [k for u, v, row in roads if u == s and v not in apart for k in row]
                self.assertTrue(all(k >= len(levels) for k in letters))
        self.assertGreater(len(shown), 3)

    def test_without_seats_apart_all_is_right(self):
        rng = rng_of(141)
        for _ in range(25):
            scene = some_scene(rng, 5)
            most = max(max(row) for row in reach(scene[0], scene[1], scene[3]))
            deeds = ()
            for _ in range(most + 1):
                deeds += model.even(model.all_behind(scene, deeds))
            self.assertGreaterEqual(waves(scene, deeds), most + 1)
            rows, copies, roads = sure(scene, deeds)
            width = len(scene[4][0])
            self.assertEqual(set(rows), {width})
            self.assertEqual({k for _, _, k in copies} | {width}, {width})
            self.assertEqual(behind(scene, deeds)[4], plain_of(scene))

    def test_far_levels_stay_sure(self):
        rng = rng_of(142)
        kept = 0
        for _ in range(80):
            scene = lying(right_scene(*some_scene(rng, 6)[:4]), rng.choice((0, 1)))
            deeds = some_run(rng, scene, 30, rng.choice((3, 10)))
            changed = {s for deed in deeds for s in model.seats_of(deed)}
            last = behind(scene, deeds)
            steps = model.far(last[1])
            numbers = sure(scene, deeds, right=True)[0]
            for s, row in enumerate(reach(last[0], last[1], last[3])):
                for i, far in enumerate(row):
                    if all(steps[s, u] is None or steps[s, u] > far for u in changed):
                        self.assertGreater(numbers[s], i)
                        kept += 1
        self.assertGreater(kept, 100)


class Refused(unittest.TestCase):
    def test_scene_then_run_then_right(self):
        wrong = SCENE[:4] + (((0,) * 4,) + SCENE[4][1:],) + SCENE[5:]
        for ask in (sure, sure_tells):
            for thing in ODD:
                self.assertRaises(NoScene, ask, thing, thing, right=True)
                self.assertRaises(NoScene, ask, thing, (), right=False)
            for deeds, at in ((None, 0), ([], 0), ((("reckon", 0), ("hear", 0, 1)), 1), (WAVE * 200, 2000)):
                for right in (True, False):
                    with self.assertRaises(NoRun) as told:
                        ask(wrong, deeds, right=right)
                    self.assertEqual(told.exception.at, at)
            self.assertRaises(NotRight, ask, wrong, (), right=True)
            self.assertRaises(NotRight, ask, wrong, WAVE * 5, right=True)
            letter = lying(SCENE, 1)[:6] + (((0, 1, ((0,) * 4,)),) + lying(SCENE, 1)[6][1:],)
            self.assertRaises(NotRight, ask, letter, (), right=True)
            ask(wrong, (), right=False)
            ask(lying(SCENE, 8), (), right=True)
            self.assertRaises(TypeError, ask, SCENE, (), True)

    def test_what_is_handed_in_stays(self):
        scene, deeds = lying(SCENE, 2), WAVE + (("strike", 0, (ROW, (ROW,), ((),), ((),))), ("word", 0, 3), ("cut", 0, 1))
        before = repr((scene, deeds))
        told = sure(scene, deeds, right=True)
        self.assertEqual(sure(scene, deeds, right=True), told)
        self.assertEqual(repr((scene, deeds)), before)

    def test_many_deeds(self):
        deeds = (WAVE * 200)[:1000] + (("word", 0, 1), ("goes", 1, 0)) * 500
        self.assertEqual(sure(SCENE, deeds)[0], (0, 0, 1, 2))
        star = right_scene(PLANS, STAR, some_row(rng_of(1), 5), (0, 1, 2, 0, 1))
        self.assertEqual(len(sure(star, (("reckon", 3),) * 2000, right=True)[0]), 5)
