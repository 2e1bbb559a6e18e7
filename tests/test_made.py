"""[19]: made plans."""

import unittest

from comeright.errors import NoNumber, NoPlan
from comeright.plain.plain import levels, plain_tells
from comeright.plain.reach import reach
from comeright.plans.made import MADE, made_plan
from comeright.plans.plans import is_plan, looking, rounds
from comeright.runs.even import need
from comeright.runs.runs import behind
from comeright.runs.sure import sure
from comeright.scenes.scenes import flat_scene, is_right, loud_scene, plain_of
from tests import model
from tests.samples import ODD, WEBS, rng_of, some_deed, some_row, some_run, some_wavy_run, some_web, two_ways

FIRSTS = {"least": ("word",), "most": ("word",), "steps": ("if", ("word",), 996, 0), "walks": 1}
NEXTS = {
    "least": ("if", ("ties",), ("low", ("own",), ("least",)), ("own",)),
    "most": ("high", ("own",), ("most",)),
    "steps": (
        "if", ("less", ("least",), 996), ("if", ("ties",), ("low", ("own",), ("plus", ("least",), 1)), ("own",)), ("own",),
    ),
    "walks": ("sum",),
}


class Plans(unittest.TestCase):
    def test_word_for_word(self):
        self.assertEqual(MADE, ("least", "most", "steps", "walks"))
        for word in MADE:
            for many in range(7):
                plan = made_plan(word, many)
                self.assertEqual(plan, (FIRSTS[word], (NEXTS[word],) * many))
                self.assertIs(is_plan(plan), True)
                self.assertEqual(rounds(plan), many)
                self.assertEqual(looking(plan), tuple(range(many)))
                self.assertEqual(made_plan(word, many), plan)

    def test_no_such_word_then_no_such_number(self):
        for word in ODD + ("Least", "leas", "least ", 0, 1, ("least",), ["least"], MADE):
            for many in (3, 7, None):
                self.assertRaises(NoPlan, made_plan, word, many)
        for word in MADE:
            for many in (7, -1, True, False, None, "1", (1,), [], 10 ** 39):
                with self.assertRaises(NoNumber) as told:
                    made_plan(word, many)
                self.assertIs(told.exception.number, many)


class Told(unittest.TestCase):
    def within(self, web, steps, seat, many):
        return [u for u in range(web[0]) if steps[seat, u] is not None and steps[seat, u] <= many]

    def walks(self, web, seat, many):
        if many == 0:
            return 1
        return sum(self.walks(web, u, many - 1) for u in model.near(web, seat)) % 997

    def holds(self, web, words):
        steps = model.far(web)
        goes = (0,) * web[0]
        for many in range(7):
            told = {word: plain_tells((made_plan(word, many),), web, words, goes) for word in MADE}
            for s in range(web[0]):
                near = self.within(web, steps, s, many)
                self.assertEqual(told["least"][s], min(words[u] for u in near))
                self.assertEqual(told["most"][s], max(words[u] for u in near))
                ways = [steps[s, u] for u in near if words[u] == 0]
                self.assertEqual(told["steps"][s], min(ways, default=996))
            if web[0] < 6:
                self.assertEqual(told["walks"], tuple(self.walks(web, s, many) for s in range(web[0])))

    def test_what_they_tell(self):
        rng = rng_of(19)
        for web in WEBS:
            self.holds(web, tuple(rng.choice((0, 3, 5, 996, rng.randrange(997))) for _ in range(web[0])))
            self.holds(web, (996,) * web[0])
            self.holds(web, (0,) * web[0])
        for _ in range(40):
            web = some_web(rng, 8)
            self.holds(web, some_row(rng, web[0]))

    def test_walks_by_rest(self):
        full = (12, tuple((a, b) for a in range(12) for b in range(a + 1, 12)))
        for many in range(7):
            told = plain_tells((made_plan("walks", many),), full, (0,) * 12, (0,) * 12)
            self.assertEqual(told, (11 ** many % 997,) * 12)

    def test_reach(self):
        line = (12, tuple((a, a + 1) for a in range(11)))
        for word in MADE:
            self.assertEqual(set(reach((made_plan(word, 6),), line, (0,) * 12)), {(0, 1, 2, 3, 4, 5, 6)})


class Needs(unittest.TestCase):
    def test_a_flat_scene_of_the_least_plan(self):
        rng = rng_of(191)
        found = set()
        for _ in range(60):
            web = some_web(rng, 8)
            if len({seat for tie in web[1] for seat in tie}) < web[0]:
                continue
            words = tuple(rng.randint(1, 996) for _ in range(web[0]))
            for many in range(7):
                found.add(many)
                self.assertEqual(need(flat_scene((made_plan("least", many),), web, words, (0,) * web[0])), many + 1)
        self.assertEqual(found, set(range(7)))

    def test_a_loud_scene_of_the_most_plan(self):
        """Just those levels are right that are sure."""
        rng = rng_of(192)
        some = set()
        for number in range(60):
            web = some_web(rng, 5)
            many = rng.randrange(7)
            words = tuple(rng.randrange(996) for _ in range(web[0]))
            scene = loud_scene((made_plan("most", many),), web, words, (0,) * web[0])
            make = some_run if number % 3 else some_wavy_run
            deeds = make(rng, scene, 40, 0) if number % 2 else self.struck(rng, scene)
            last = behind(scene, deeds)
            plain = plain_of(last)
            rows, copies, roads = sure(scene, deeds)
            for s, number in enumerate(rows):
                some.add(number)
                self.assertEqual(self.right(last[4][s], plain[s]), number)
            for (s, u, number), (_, _, row) in zip(copies, last[5]):
                self.assertEqual(self.right(row, plain[u]), number)
            for (s, u, numbers), (_, _, letters) in zip(roads, last[6]):
                self.assertEqual(tuple(self.right(row, plain[s]) for row in letters), numbers)
            self.assertEqual(is_right(last), set(rows) | {k for _, _, k in copies} == {many + 1} and
                             all(k == many + 1 for _, _, row in roads for k in row))
        self.assertGreater(len(some), 4)

    def right(self, row, plain):
        """How many levels are right: none behind the first wrong one is."""
        told = [worth == wanted for worth, wanted in zip(row, plain)]
        self.assertEqual(told, sorted(told, reverse=True))
        return sum(told)

    def struck(self, rng, scene):
        world, deeds = model.Model(scene), []
        for _ in range(50):
            now = world.scene()
            deed = some_deed(rng, now, 0)
            if rng.random() < 0.1:
                seat = rng.randrange(scene[1][0])
                row = (996,) * len(scene[4][0])
                near = [u for s, u in two_ways(scene[1]) if s == seat]
                letters = tuple((row,) * rng.randrange(9) for _ in near)
                deed = ("strike", seat, (row, (row,) * len(near), letters, letters[::-1]))
            deeds.append(deed)
            world.do(deed)
        return tuple(deeds)

    def test_levels_of_made_plans(self):
        told = levels((made_plan("least", 2), made_plan("steps", 1)), (3, ((0, 1), (1, 2))), (4, 0, 7), (0, 1, 1))
        self.assertEqual(told, ((4, 0, 0), (0, 0, 0), (996, 1, 0)))
