"""[10]: deeds, changes, what is behind them."""

import unittest

from comeright.errors import NoDeed, NoScene
from comeright.scenes.deeds import changed, done, is_change, is_deed
from comeright.scenes.scenes import is_scene, plain_of
from tests import model
from tests.samples import LEAST, LINE, ODD, STILL, WALKS, rng_of, some_deed, some_scene, spoiled

A, B, C = (1, 2, 3), (4, 5, 6), (7, 8, 9)
FULL = (A, B, C, A, B, C, A, B)
# Seat 1 stands between 0 and 2; seat 3 has no neighbours.
SCENE = (
    (WALKS, STILL), (4, ((0, 1), (1, 2))), (10, 11, 12, 13), (0, 0, 0, 1), (A, B, C, A),
    ((0, 1, A), (1, 0, B), (1, 2, C), (2, 1, A)), ((0, 1, (A, B)), (1, 0, ()), (1, 2, FULL), (2, 1, (C,))),
)
PUT = ("put", 0, 2, (A, B, (C,), ()))
STRIKE = ("strike", 1, (C, (A, B), ((), (A,)), ((B, B), ())))
DEEDS = (
    ("reckon", 1), ("reckon", 3), ("send", 0, 1), ("send", 1, 2), ("hear", 1, 0), ("hear", 1, 2), ("lose", 0, 1, 1),
    ("lose", 1, 2, 7), ("double", 0, 1, 0), ("word", 3, 13), ("word", 0, 996), ("goes", 3, 1), ("goes", 0, 1), PUT,
    ("cut", 1, 2), STRIKE, ("strike", 3, (A, (), (), ())),
)
CHANGED = {"word": 1, "goes": 1, "put": 2, "cut": 2, "strike": 1}


class Done(unittest.TestCase):
    def parts(self, deed, **parts):
        """Hold the scene behind a deed against that ahead of it, but for these parts."""
        names = ("plans", "web", "words", "goes", "rows", "copies", "roads")
        told = done(SCENE, deed)
        self.assertEqual(told, tuple(parts.get(name, part) for name, part in zip(names, SCENE)))
        self.assertIs(is_scene(told), True)

    def test_reckon(self):
        # Level 0 is 1, level 1 the sum of 4 and 7, level 2 the sum of 5 and 8.
        self.parts(("reckon", 1), rows=(A, (1, 11, 13), C, A))
        self.parts(("reckon", 0), rows=((1, 1, 2), B, C, A))
        # The plan of seat 3 has no nexts.
        self.parts(("reckon", 3), rows=(A, B, C, (13, 0, 0)))

    def test_reckon_goes_by_the_level_just_made(self):
        plan = (("word",), (("plus", ("own",), ("ties",)), ("plus", ("own",), ("own",))))
        scene = ((plan,), (2, ((0, 1),)), (5, 5), (0, 0), (A, A), ((0, 1, B), (1, 0, B)), ((0, 1, ()), (1, 0, ())))
        self.assertEqual(done(scene, ("reckon", 0))[4], ((5, 6, 12), A))

    def test_send(self):
        one, two, three, four = SCENE[6]
        self.parts(("send", 0, 1), roads=((0, 1, (A, B, A)), two, three, four))
        self.parts(("send", 1, 0), roads=(one, (1, 0, (B,)), three, four))

    def test_send_on_a_full_road_is_lost(self):
        self.parts(("send", 1, 2))
        self.assertIs(is_deed(SCENE, ("send", 1, 2)), True)

    def test_hear(self):
        one, two, three, four = SCENE[6]
        self.parts(
            ("hear", 1, 0), copies=((0, 1, A), (1, 0, A), (1, 2, C), (2, 1, A)), roads=((0, 1, (B,)), two, three, four)
        )
        self.parts(
            ("hear", 2, 1), copies=((0, 1, A), (1, 0, B), (1, 2, C), (2, 1, A)),
            roads=(one, two, (1, 2, FULL[1:]), four)
        )

    def test_lose_and_double(self):
        one, two, three, four = SCENE[6]
        self.parts(("lose", 0, 1, 0), roads=((0, 1, (B,)), two, three, four))
        self.parts(("lose", 0, 1, 1), roads=((0, 1, (A,)), two, three, four))
        self.parts(("double", 0, 1, 0), roads=((0, 1, (A, A, B)), two, three, four))
        self.parts(("double", 0, 1, 1), roads=((0, 1, (A, B, B)), two, three, four))
        self.parts(("lose", 1, 2, 7), roads=(one, two, (1, 2, FULL[:7]), four))

    def test_of_letters_that_are_not_there(self):
        for deed in (
            ("hear", 0, 1), ("lose", 1, 0, 0), ("double", 1, 0, 0), ("lose", 0, 1, 2), ("lose", 0, 1, -1),
            ("double", 0, 1, 2), ("double", 0, 1, -1), ("lose", 1, 2, 8), ("lose", 0, 1, True), ("double", 0, 1, False),
        ):
            self.assertIs(is_deed(SCENE, deed), False, deed)

    def test_no_double_on_a_full_road(self):
        for at in range(9):
            self.assertIs(is_deed(SCENE, ("double", 1, 2, at)), False)
        seven = done(SCENE, ("lose", 1, 2, 0))
        self.assertEqual(done(seven, ("double", 1, 2, 6))[6][2], (1, 2, FULL[1:] + (B,)))

    def test_word_and_goes(self):
        self.parts(("word", 2, 0), words=(10, 11, 0, 13))
        self.parts(("goes", 2, 1), goes=(0, 0, 1, 1))
        self.parts(("word", 2, 12))
        self.parts(("goes", 2, 0))
        for deed in (("word", 2, 997), ("word", 2, -1), ("word", 2, True), ("goes", 2, 2), ("goes", 2, -1),
                     ("goes", 2, False)):
            self.assertIs(is_deed(SCENE, deed), False, deed)

    def test_put(self):
        one, two, three, four = SCENE[6]
        self.parts(
            PUT, web=(4, ((0, 1), (0, 2), (1, 2))),
            copies=((0, 1, A), (0, 2, A), (1, 0, B), (1, 2, C), (2, 0, B), (2, 1, A)),
            roads=(one, (0, 2, (C,)), two, three, (2, 0, ()), four),
        )
        for deed in (
            ("put", 0, 1, PUT[3]), ("put", 2, 0, PUT[3]), ("put", 2, 2, PUT[3]), ("put", 0, 4, PUT[3]),
            ("put", 0, 2, PUT[3][:3]), ("put", 0, 2, PUT[3] + ((),)), ("put", 0, 2, (A[:2], B, (), ())),
            ("put", 0, 2, (A, B + (1,), (), ())), ("put", 0, 2, (A, B, FULL + (A,), ())),
            ("put", 0, 2, (A, B, (), FULL + (A,))), ("put", 0, 2, (A, B, (A[:2],), ())), ("put", 0, 2) + PUT[3],
        ):
            self.assertIs(is_deed(SCENE, deed), False, deed)
        self.assertIs(is_deed(SCENE, ("put", 0, 2, (A, B, FULL, FULL))), True)

    def test_cut(self):
        one, two, three, four = SCENE[6]
        self.parts(("cut", 1, 2), web=(4, ((0, 1),)), copies=((0, 1, A), (1, 0, B)), roads=(one, two))
        for deed in (("cut", 0, 2), ("cut", 2, 1), ("cut", 1, 1), ("cut", 1, 4), ("cut", 0, True)):
            self.assertIs(is_deed(SCENE, deed), False, deed)

    def test_put_is_the_cuts_way_back(self):
        cut = done(SCENE, ("cut", 1, 2))
        self.assertEqual(done(cut, ("put", 1, 2, (C, A, FULL, (C,)))), SCENE)

    def test_strike(self):
        self.parts(
            STRIKE, rows=(A, C, C, A), copies=((0, 1, A), (1, 0, A), (1, 2, B), (2, 1, A)),
            roads=((0, 1, (B, B)), (1, 0, ()), (1, 2, (A,)), (2, 1, ())),
        )
        self.assertEqual(plain_of(done(SCENE, STRIKE)), plain_of(SCENE))

    def test_strike_of_a_seat_without_neighbours(self):
        self.parts(("strike", 3, (C, (), (), ())), rows=(A, B, C, C))
        self.assertIs(is_deed(SCENE, ("strike", 3, (C, (A,), (), ()))), False)
        self.assertIs(is_deed(SCENE, ("strike", 3, (C, (), ((),), ()))), False)
        self.assertIs(is_deed(SCENE, ("strike", 3, (C, (), (), ((),)))), False)

    def test_strikes_of_other_forms(self):
        row, copies, out, into = STRIKE[2]
        for struck in (
            (row, copies, out), (row, copies, out, into, ()), (row[:2], copies, out, into),
            (row, copies[:1], out, into), (row, copies + (A,), out, into), (row, copies, out[:1], into),
            (row, copies, out + ((),), into), (row, copies, out, into[:1]), (row, copies, out, into + ((),)),
            (row, (A, A + A), out, into), (row, copies, (FULL + (A,), ()), into), (row, copies, out, ((A[:1],), ())),
            (row, copies, A, into), (row, copies, out, copies),
        ):
            self.assertIs(is_deed(SCENE, ("strike", 1, struck)), False, struck)
        self.assertIs(is_deed(SCENE, ("strike", 1, (row, copies, (FULL, FULL), (FULL, FULL)))), True)

    def test_against_the_model(self):
        rng = rng_of(10)
        for _ in range(40):
            scene = some_scene(rng, 6)
            for _ in range(40):
                deed = some_deed(rng, scene, 40)
                self.assertIs(is_deed(scene, deed), True, deed)
                self.assertIs(is_change(scene, deed), deed[0] in CHANGED)
                self.assertEqual(changed(scene, deed), tuple(deed[1:1 + CHANGED.get(deed[0], 0)]))
                before, scene = scene, done(scene, deed)
                self.assertEqual(scene, model.behind(before, deed))
                self.assertIs(is_scene(scene), True)


class IsDeed(unittest.TestCase):
    def test_each_kind(self):
        for deed in DEEDS:
            self.assertIs(is_deed(SCENE, deed), True, deed)
            self.assertIs(is_change(SCENE, deed), deed[0] in CHANGED)
            self.assertEqual(changed(SCENE, deed), tuple(deed[1:1 + CHANGED.get(deed[0], 0)]))

    def test_of_anything(self):
        for thing in ODD:
            self.assertIs(is_deed(SCENE, thing), False, thing)
        for deed in DEEDS:
            for thing in spoiled(deed):
                self.assertIs(is_deed(SCENE, thing), False, thing)

    def test_seats_that_have_no_tie(self):
        for deed in (("send", 0, 2), ("send", 0, 0), ("send", 3, 0), ("send", 0, 4), ("hear", 2, 0), ("hear", 0, 0),
                     ("lose", 2, 0, 0), ("double", 0, 3, 0), ("reckon", 4), ("word", 4, 1), ("goes", -1, 0)):
            self.assertIs(is_deed(SCENE, deed), False, deed)

    def test_how_many_parts(self):
        for deed in DEEDS:
            self.assertIs(is_deed(SCENE, deed[:-1]), False)
            self.assertIs(is_deed(SCENE, deed + (0,)), False)

    def test_refused(self):
        for thing in ODD:
            for ask in (is_deed, is_change, changed, done):
                self.assertRaises(NoScene, ask, thing, thing)
            for ask in (is_change, changed, done):
                self.assertRaises(NoDeed, ask, SCENE, thing)
        for ask in (is_change, changed, done):
            self.assertRaises(NoDeed, ask, SCENE, ("cut", 0, 2))
            self.assertRaises(NoScene, ask, SCENE[:6], ("reckon", 0))

    def test_what_is_handed_in_stays_as_it_was(self):
        scene = ((LEAST,), LINE, (1, 2, 3, 4), (0,) * 4, ((0,) * 4,) * 4,
                 tuple((s, u, (0,) * 4) for s in range(4) for u in model.near(LINE, s)),
                 tuple((s, u, ()) for s in range(4) for u in model.near(LINE, s)))
        before = repr(scene)
        self.assertRaises(NoDeed, done, scene, ("hear", 0, 1))
        told = done(scene, ("send", 0, 1))
        self.assertEqual(done(scene, ("send", 0, 1)), told)
        self.assertEqual(repr(scene), before)
