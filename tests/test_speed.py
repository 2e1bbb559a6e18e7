"""How much is done for one asking: counted in calls, which are alike on each machine, and not in seconds."""

import sys
import unittest

from comeright.runs.runs import behind, is_run
from comeright.runs.waves import waves
from comeright.scenes.deeds import changed, done, is_change, is_deed
from comeright.scenes.scenes import copy_of, flat_scene, is_right, is_scene, loud_scene, right_scene, road_of, row_of, tells
from comeright.tables.movers import is_walk, nexts
from comeright.tables.tables import is_table
from comeright.webs.webs import is_web, neighbours, steps, steps_to, within
from tests.samples import FULL, LEAST, rng_of, some_row, two_ways
from tests.tables import made

ROUND = ("if", ("ties",), ("low", ("own",), ("least",)), ("own",))
STEP = ("if", ("less", ("least",), 996), ("if", ("ties",), ("low", ("own",), ("plus", ("least",), 1)), ("own",)), ("own",))
SIX = (
    (("word",), (ROUND,) * 6), (("if", ("word",), 996, 0), (STEP,) * 6),
    (("word",), (("high", ("own",), ("most",)),) * 6),
)
PARTS = (SIX, FULL, tuple(range(12)), (0, 1, 2) * 4)
LOUD = loud_scene(*PARTS)


def with_letters(scene, many):
    return scene[:6] + (tuple((s, u, (scene[4][s],) * many) for s, u in two_ways(scene[1])),)


def calls(ask, *handed):
    """How many calls of the program's own defs one asking makes."""
    made = []

    def see(frame, event, _):
        if event == "call":
            made.append(frame.f_code.co_name)

    sys.setprofile(see)
    try:
        ask(*handed)
    finally:
        sys.setprofile(None)
    return len(made)


class Calls(unittest.TestCase):
    def test_webs(self):
        # There are 66 ties and 132 ways: none has a call of its own.
        for ask, handed in ((is_web, ()), (neighbours, (5,)), (steps, (0, 11)), (steps_to, ((0, 5),)), (within, (0, 3))):
            self.assertLess(calls(ask, FULL, *handed), 20, ask)

    def test_scenes(self):
        # There are 1008 worths without letters, 8400 with them: only what has terms in it has a call of its own.
        for scene in (LOUD, with_letters(LOUD, 8), with_letters(flat_scene(*PARTS), 8)):
            for ask, handed in (
                (is_scene, ()), (tells, ()), (row_of, (3,)), (copy_of, (3, 4)), (road_of, (3, 4)),
                (is_deed, (("reckon", 3),)), (is_change, (("reckon", 3),)), (changed, (("word", 3, 4),)),
                (done, (("word", 3, 4),)), (done, (("send", 3, 4),)),
            ):
                self.assertLess(calls(ask, scene, *handed), 250, ask)
            self.assertLess(calls(is_right, scene), 1500)

    def test_runs(self):
        reckons = tuple(("reckon", k % 12) for k in range(240))
        self.assertLess(calls(is_run, LOUD, reckons), 2000)
        self.assertLess(calls(behind, LOUD, reckons), 5000)
        wave = reckons[:12] + tuple(("send", s, u) for s, u in two_ways(FULL)) + tuple(
            ("hear", u, s) for s, u in two_ways(FULL)
        )
        self.assertLess(calls(behind, LOUD, wave * 3), 828 * 20)
        self.assertLess(calls(waves, LOUD, wave * 3), 828 * 20)


class Tables(unittest.TestCase):
    def test_no_row_has_a_call_of_its_own(self):
        rng = rng_of(13)
        for size, many in ((2, 6), (3, 6), (5, 4), (9, 3)):
            looks = [[other for other in range(many) if other != seat] for seat in range(many)]
            for rule in (lambda seat, view: range(size), lambda seat, view: [rng.randrange(size)]):
                table = made(size, looks, rule)
                self.assertGreater(sum(len(moves) for _, moves in table[1]), 380)
                standing = (0,) * many
                self.assertLess(calls(is_table, table), 180)
                self.assertLess(calls(nexts, table, standing, "some"), 250)
                self.assertLess(calls(is_walk, table, "some", (standing,)), 200)


class Truths(unittest.TestCase):
    """A truth is alike to 0 or 1: what is alike to a row that was looked at may still be none."""

    def spoiled_at(self, part, path, truth):
        if not path:
            self.assertEqual(part, truth)
            return truth
        at = path[0]
        return part[:at] + (self.spoiled_at(part[at], path[1:], truth),) + part[at + 1:]

    def paths(self, part):
        if isinstance(part, tuple):
            for at, inner in enumerate(part):
                for path in self.paths(inner):
                    yield (at,) + path
        elif part in (0, 1):
            yield ()

    def value(self, part, path):
        return self.value(part[path[0]], path[1:]) if path else part

    def test_in_each_place(self):
        rng = rng_of(6)
        web = (3, ((0, 1), (0, 2)))
        mixed = tuple((s, u, (some_row(rng, 4),) * 2) for s, u in two_ways(web))
        for scene in (
            flat_scene((LEAST,), web, (0, 1, 2), (0, 0, 0)), right_scene((LEAST,), web, (1, 1, 0), (0, 0, 0)),
            right_scene((LEAST, (1, (("plus", ("own",), 1), 0))), web, (1, 7, 9), (1, 1, 0)),
        ):
            for held in (scene, with_letters(scene, 3), scene[:6] + (mixed,)):
                self.assertIs(is_scene(held), True)
                for path in self.paths(held):
                    truth = self.value(held, path) == 1
                    self.assertIs(is_scene(self.spoiled_at(held, path, truth)), False, path)


class Alike(unittest.TestCase):
    def test_a_reckon_goes_by_what_came_since_the_last_one(self):
        scene = right_scene((LEAST,), (2, ((0, 1),)), (5, 9), (0, 0))
        low = (("word", 1, 2), ("reckon", 1), ("send", 1, 0), ("reckon", 0), ("hear", 0, 1), ("reckon", 0), ("reckon", 0))
        rows = [behind(scene, low[:at])[4][0] for at in range(8)]
        self.assertEqual(rows, [(5, 5, 5, 5)] * 6 + [(5, 2, 2, 2)] * 2)
        scene = behind(scene, low)
        for change, row in (
            (("word", 0, 1), (1, 1, 1, 1)), (("cut", 0, 1), (5, 5, 5, 5)),
            (("strike", 0, ((9,) * 4, ((0,) * 4,), ((),), ((),))), (5, 0, 0, 0)),
        ):
            deeds = (("reckon", 0), ("reckon", 0), change, ("reckon", 0), ("reckon", 0))
            self.assertEqual(behind(scene, deeds)[4][0], row)
