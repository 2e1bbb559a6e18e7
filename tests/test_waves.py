"""[12]: waves, and how many a run shows."""

import unittest

from comeright.errors import NoNumber, NoRun, NoScene, NoSeat
from comeright.runs.waves import is_wave, shows_waves, wave_ends, waves
from comeright.scenes.scenes import right_scene
from tests import model
from tests.samples import ALONE, LEAST, LINE, ODD, STAR, rng_of, some_deed, some_scene

TWO = right_scene((LEAST,), (2, ((0, 1),)), (5, 9), (0, 0))
ROW = TWO[4][0]
ONE = right_scene((LEAST,), ALONE, (5,), (0,))
# One wave, none of whose deeds can be left out.
WAVE = (("reckon", 0), ("send", 0, 1), ("hear", 1, 0), ("reckon", 1), ("send", 1, 0), ("hear", 0, 1))
STRIKE = ("strike", 0, (ROW, (ROW,), ((),), ((),)))


def letters(scene, there, back):
    """The scene of two seats with so many letters on its roads."""
    return scene[:6] + (((0, 1, (ROW,) * there), (1, 0, (ROW,) * back)),)


class Stretch(unittest.TestCase):
    def test_just_a_wave_and_one_moment_less(self):
        self.assertIs(is_wave(TWO, WAVE, 0, 6), True)
        self.assertIs(is_wave(TWO, WAVE, 1, 6), False)
        self.assertIs(is_wave(TWO, WAVE, 0, 5), False)
        deeds = (("send", 1, 0),) + WAVE[:5] + (("hear", 0, 1), ("hear", 0, 1), ("reckon", 0))
        self.assertIs(is_wave(TWO, deeds, 1, 8), True)
        self.assertIs(is_wave(TWO, deeds, 0, 9), True)
        self.assertIs(is_wave(TWO, deeds, 1, 7), False)
        self.assertIs(is_wave(TWO, deeds, 2, 8), False)

    def test_each_deed_is_needed(self):
        for at in range(6):
            deeds = WAVE[:at] + (("reckon", 0) if WAVE[at][0] != "reckon" else ("reckon", 1 - WAVE[at][1]),) + WAVE[at + 1:]
            if at in (1, 4):
                # What is heard then is a letter that stood there at first.
                scene = letters(TWO, 1, 1)
            else:
                scene = TWO
            self.assertIs(is_wave(scene, deeds, 0, 6), False, deeds)

    def test_no_stretch(self):
        for begin, end in ((0, 0), (6, 6), (6, 0), (3, 2)):
            self.assertIs(is_wave(TWO, WAVE, begin, end), False)
            self.assertIs(is_wave(TWO, WAVE, begin, end, apart=(0, 1)), False)

    def test_a_letter_sent_ahead_of_the_reckon(self):
        deeds = (("send", 0, 1), ("reckon", 0), ("hear", 1, 0)) + WAVE[3:]
        self.assertIs(is_wave(TWO, deeds, 0, 6), False)
        self.assertIs(is_wave(TWO, (("reckon", 0),) + deeds, 0, 7), True)
        self.assertIs(is_wave(TWO, (("reckon", 0),) + deeds, 1, 7), False)

    def test_a_letter_lost(self):
        deeds = WAVE[:2] + (("lose", 0, 1, 0), ("send", 0, 1), ("hear", 1, 0)) + WAVE[3:]
        self.assertIs(is_wave(TWO, deeds, 0, 8), True)
        self.assertIs(is_wave(letters(TWO, 1, 0), WAVE[:2] + (("lose", 0, 1, 1),) + WAVE[2:], 0, 7), False)
        self.assertIs(is_wave(letters(TWO, 1, 0), WAVE[:2] + (("lose", 0, 1, 0),) + WAVE[2:], 0, 7), True)

    def test_a_letter_doubled(self):
        deeds = WAVE[:2] + (("double", 0, 1, 0), ("lose", 0, 1, 0)) + WAVE[2:]
        self.assertIs(is_wave(TWO, deeds, 0, 8), True)
        elder = letters(TWO, 1, 0)
        deeds = WAVE[:2] + (("double", 0, 1, 0), ("hear", 1, 0)) + WAVE[2:]
        self.assertIs(is_wave(elder, deeds, 0, 8), False)
        deeds = WAVE[:2] + (("double", 0, 1, 1), ("hear", 1, 0)) + WAVE[2:]
        self.assertIs(is_wave(elder, deeds, 0, 8), True)

    def test_a_letter_on_a_full_road(self):
        deeds = WAVE[:2] + (("hear", 1, 0),) * 8 + WAVE[3:]
        self.assertIs(is_wave(letters(TWO, 8, 0), deeds, 0, len(deeds)), False)
        self.assertIs(is_wave(letters(TWO, 7, 0), deeds, 0, len(deeds)), True)

    def test_a_letter_of_an_elder_sending(self):
        self.assertIs(is_wave(letters(TWO, 1, 0), WAVE, 0, 6), False)
        self.assertIs(is_wave(letters(TWO, 1, 0), WAVE + (("hear", 1, 0),), 0, 7), True)
        self.assertIs(is_wave(letters(TWO, 1, 0), WAVE + (("hear", 1, 0),), 0, 6), False)

    def test_a_letter_heard_behind_the_stretch(self):
        deeds = WAVE[:2] + WAVE[3:] + (WAVE[2],)
        self.assertIs(is_wave(TWO, deeds, 0, 5), False)
        self.assertIs(is_wave(TWO, deeds, 0, 6), True)


class Changes(unittest.TestCase):
    def test_changes_of_seats_that_are_not_apart(self):
        for change in (("word", 0, 5), ("goes", 0, 0), STRIKE):
            deeds = WAVE + (change,)
            self.assertIs(is_wave(TWO, deeds, 0, 6), True)
            self.assertIs(is_wave(TWO, deeds, 0, 7), False)
            self.assertIs(is_wave(TWO, (change,) + WAVE, 1, 7), True)
            self.assertIs(is_wave(TWO, (change,) + WAVE, 0, 7), False)
            self.assertIs(is_wave(TWO, deeds, 0, 7, apart=(0,)), True)
            self.assertIs(is_wave(TWO, deeds, 0, 7, apart=(1,)), False)
            self.assertEqual(wave_ends(TWO, deeds), (7,))
            self.assertEqual(wave_ends(TWO, (change,) + WAVE), (1, 7))
            self.assertEqual(wave_ends(TWO, deeds, apart=(0,)), (0, 4))

    def test_of_a_put_and_a_cut_both_are_apart(self):
        deeds = WAVE + (("cut", 0, 1),)
        self.assertIs(is_wave(TWO, deeds, 0, 7), False)
        self.assertIs(is_wave(TWO, deeds, 0, 7, apart=(0,)), False)
        self.assertIs(is_wave(TWO, deeds, 0, 7, apart=(1,)), False)
        self.assertIs(is_wave(TWO, deeds, 0, 7, apart=(0, 1)), True)
        self.assertEqual(wave_ends(TWO, deeds, apart=(1,)), (7,))
        put = (("cut", 0, 1), ("put", 0, 1, (ROW, ROW, (ROW,), ()))) + WAVE
        self.assertEqual(wave_ends(TWO, put), (2,))
        self.assertEqual(wave_ends(TWO, put + (("hear", 1, 0),)), (2, 9))

    def test_without_a_tie_none_is_to_be_heard(self):
        deeds = (("cut", 0, 1), ("reckon", 0), ("reckon", 1), ("reckon", 0), ("reckon", 0), ("reckon", 1))
        self.assertEqual(wave_ends(TWO, deeds), (1, 3, 6))
        self.assertIs(is_wave(TWO, deeds, 1, 3), True)
        self.assertIs(is_wave(TWO, deeds, 2, 4), True)
        self.assertIs(is_wave(TWO, deeds, 3, 5), False)

    def test_a_letter_ahead_of_a_cut_is_none_behind_it(self):
        line = right_scene((LEAST,), LINE, (5, 9, 3, 7), (0,) * 4)
        row = line[4][0]
        deeds = (("reckon", 0), ("send", 0, 1), ("cut", 0, 1), ("put", 0, 1, (row, row, (row,), ())), ("hear", 1, 0))
        self.assertIs(is_wave(line, deeds, 0, 5, apart=(2, 3)), False)
        self.assertIs(is_wave(line, deeds, 0, 5, apart=(1, 2, 3)), False)
        self.assertIs(is_wave(line, deeds[:2], 0, 2, apart=(1, 2, 3)), True)


class Shown(unittest.TestCase):
    def test_the_most_waves(self):
        deeds = WAVE * 3
        self.assertEqual(wave_ends(TWO, deeds), (0, 6, 12, 18))
        self.assertEqual(waves(TWO, deeds), 3)
        self.assertEqual(waves(TWO, deeds[:17]), 2)
        self.assertEqual(waves(TWO, deeds[1:]), 2)
        self.assertEqual(wave_ends(TWO, deeds[3:]), (0, 6, 12))

    def test_no_deeds(self):
        self.assertEqual(wave_ends(TWO, ()), (0,))
        self.assertEqual(waves(TWO, ()), 0)
        self.assertEqual(waves(TWO, (), apart=(0, 1)), 0)

    def test_seats_apart(self):
        self.assertEqual(wave_ends(TWO, WAVE, apart=()), (0, 6))
        self.assertEqual(wave_ends(TWO, WAVE, apart=(0,)), (0, 4))
        self.assertEqual(wave_ends(TWO, WAVE, apart=(1,)), (0, 1))
        self.assertEqual(wave_ends(TWO, WAVE, apart=(0, 1)), (0, 1, 2, 3, 4, 5, 6))
        self.assertEqual(waves(TWO, (STRIKE, STRIKE), apart=(0, 1)), 2)

    def test_one_seat(self):
        deeds = (("reckon", 0), ("word", 0, 5), ("reckon", 0), ("reckon", 0))
        self.assertEqual(wave_ends(ONE, deeds), (2, 3, 4))
        self.assertEqual(wave_ends(ONE, deeds, apart=(0,)), (0, 1, 2, 3, 4))
        self.assertIs(is_wave(ONE, deeds, 0, 1), True)

    def test_shows_waves(self):
        deeds = (("word", 1, 9),) + WAVE * 2 + (("reckon", 0),)
        for thing in ((1,), (4,), (14,), (1, 7), (1, 8), (1, 7, 13), (1, 7, 14), (7, 13), (1, 14), (3, 13)):
            self.assertIs(shows_waves(TWO, deeds, thing), True, thing)
        for thing in (
            (), (0,), (0, 7), (15,), (1, 6), (2, 7), (1, 7, 12), (1, 8, 14), (1, 7, 15), (7, 1), (1, 1), (1, 7, 7), (True,),
            (1, None), [1, 7], 1, (1, 7, 13, 14), ((1, 7),), (-1,), (10 ** 39,),
        ):
            self.assertIs(shows_waves(TWO, deeds, thing), False, thing)
        self.assertIs(shows_waves(TWO, deeds, (0, 1), apart=(1,)), False)
        self.assertIs(shows_waves(TWO, deeds, (0, 2), apart=(1,)), True)
        self.assertIs(shows_waves(TWO, deeds, tuple(range(15)), apart=(0, 1)), True)
        for thing in ODD:
            self.assertIs(shows_waves(TWO, deeds, thing), False)

    def test_many_deeds(self):
        deeds = (WAVE * 334)[:2000]
        self.assertEqual(waves(TWO, deeds), 333)
        self.assertIs(shows_waves(TWO, deeds, tuple(range(0, 2000, 6))), True)
        self.assertIs(shows_waves(TWO, deeds, tuple(range(0, 2000, 5))), False)


class Roads(unittest.TestCase):
    """What went on the roads ahead of a wave: what stands there is heard ahead of its letters, and nothing else is."""

    def holds(self, scene, ahead, many, *, apart=()):
        """The wave behind some deeds has to hear just so many letters more, from 0 to 1."""
        for more in range(many + 2):
            deeds = ahead + WAVE[:2] + (("hear", 1, 0),) * (1 + min(more, many)) + WAVE[3:]
            self.assertIs(is_wave(scene, deeds, len(ahead), len(deeds), apart=apart), more >= many, deeds)

    def test_sent_lost_doubled_heard(self):
        send, lose, double, hear = ("send", 0, 1), ("lose", 0, 1, 0), ("double", 0, 1, 0), ("hear", 1, 0)
        for ahead, many in (
            ((), 0), ((send,), 1), ((send, lose), 0), ((send, double), 2), ((send, double, lose), 1), ((send, hear), 0),
            ((send, double, hear), 1), ((send, send, double, ("lose", 0, 1, 2)), 2), ((send,) * 7, 7),
            ((send,) * 9 + (hear,), 7), ((send,) * 12 + (lose,), 7), ((send,) * 9 + (hear,) * 8, 0),
        ):
            self.holds(TWO, ahead, many)
            self.holds(TWO, (("reckon", 0),) + ahead, many)

    def test_struck_put_and_cut(self):
        send = ("send", 0, 1)
        strike = lambda seat, out, into: ("strike", seat, (ROW, (ROW,), ((ROW,) * out,), ((ROW,) * into,)))
        put = lambda on, back: ("put", 0, 1, (ROW, ROW, (ROW,) * on, (ROW,) * back))
        for ahead, many in (
            ((send, strike(0, 0, 0)), 0), ((strike(0, 3, 0),), 3), ((send, strike(1, 0, 2)), 2), ((strike(1, 0, 7),), 7),
            ((send, send, ("cut", 0, 1), put(0, 0)), 0), ((("cut", 0, 1), put(2, 0)), 2),
            ((strike(0, 1, 0), ("word", 0, 3), ("goes", 1, 0)), 1),
        ):
            self.holds(TWO, ahead, many)
        for ahead in ((strike(1, 2, 0),), (strike(0, 0, 2),), (("cut", 0, 1), put(0, 2))):
            deeds = ahead + WAVE + (("hear", 0, 1),) * 2
            self.assertEqual(wave_ends(TWO, deeds), (len(ahead), len(deeds)))

    def test_a_strike_of_a_seat_between_others(self):
        line = right_scene((LEAST,), (3, ((0, 1), (1, 2))), (5, 9, 3), (0,) * 3)
        row = line[4][0]
        # A letter stands on the road to seat 2 then, and two on that from seat 0.
        struck = ("strike", 1, (row, (row, row), ((), (row,)), ((row, row), ())))
        deeds = (
            struck, ("reckon", 1), ("send", 1, 0), ("send", 1, 2), ("hear", 0, 1), ("hear", 2, 1), ("hear", 2, 1),
            ("reckon", 0), ("send", 0, 1), ("hear", 1, 0), ("hear", 1, 0), ("hear", 1, 0),
            ("reckon", 2), ("send", 2, 1), ("hear", 1, 2),
        )
        for begin, end, apart, told in (
            (0, 15, (), False), (1, 15, (), True), (1, 14, (), False), (2, 15, (), False), (0, 15, (1,), True),
            (1, 12, (2,), True), (1, 11, (2,), False), (0, 12, (2,), False), (1, 15, (0,), True), (1, 14, (0,), False),
            (1, 2, (0, 2), True), (0, 2, (0, 2), False), (0, 8, (1, 2), True), (0, 7, (1, 2), False),
        ):
            self.assertIs(is_wave(line, deeds, begin, end, apart=apart), told, (begin, end, apart))
        self.assertIs(is_wave(line, deeds[:6] + deeds[7:], 1, 14), False)


class AgainstTheModel(unittest.TestCase):
    def most(self, deeds, stretches, begin):
        """The most waves one behind another, by each way of parting the run."""
        most = {at: 0 for at in range(len(deeds) + 1)}
        for b in range(begin, len(deeds) + 1):
            most[b] = max([0] + [most[a] + 1 for a in range(begin, b) if (a, b) in stretches])
        return max(most.values())

    def one(self, rng, scene, deeds, apart):
        stretches = model.all_waves(scene, deeds, apart)
        change = [at + 1 for at, deed in enumerate(deeds) if set(model.seats_of(deed)) - set(apart)]
        begin = change[-1] if change else 0
        most = self.most(deeds, stretches, begin)
        self.assertEqual(waves(scene, deeds, apart=apart), most)
        ends = wave_ends(scene, deeds, apart=apart)
        self.assertEqual((ends[0], len(ends)), (begin, most + 1))
        self.assertIs(shows_waves(scene, deeds, ends, apart=apart), True)
        for a, b in zip(ends, ends[1:]):
            self.assertEqual(b, min(stop for start, stop in stretches if start == a))
        for _ in range(25):
            a, b = rng.randint(0, len(deeds)), rng.randint(0, len(deeds))
            self.assertIs(is_wave(scene, deeds, a, b, apart=apart), (a, b) in stretches)
            if a < b:
                self.assertIs(shows_waves(scene, deeds, (a, b), apart=apart), a >= begin and (a, b) in stretches)
        for a, b in rng.sample(sorted(stretches), min(8, len(stretches))):
            self.assertIs(is_wave(scene, deeds, a, b, apart=apart), True)
        return most

    def test_runs_of_anything(self):
        rng = rng_of(12)
        shown = []
        for number in range(24):
            scene = first = some_scene(rng, 3)
            if number % 2:
                scene = first = first[:6] + (tuple((s, u, ()) for s, u, _ in first[6]),)
            deeds = []
            for _ in range(30):
                deeds.append(some_deed(rng, scene, rng.choice((0, 0, 3, 8))))
                scene = model.behind(scene, deeds[-1])
            for apart in {(), tuple(s for s in range(first[1][0]) if rng.random() < 0.5), (0,)}:
                shown.append(self.one(rng, first, tuple(deeds), apart))
        self.assertGreater(len(set(shown)), 4)

    def test_runs_with_many_waves(self):
        rng = rng_of(121)
        shown = []
        for _ in range(30):
            scene = first = some_scene(rng, 3)
            deeds = []
            while len(deeds) < 60:
                kind = rng.choice(("reckon", "send", "hear", "hear", "any"))
                fresh = [("reckon", s) for s in range(scene[1][0])] if kind == "reckon" else []
                if kind == "send":
                    fresh = [("send", s, u) for s, u, _ in scene[6]]
                if kind == "hear":
                    fresh = [("hear", u, s) for s, u, letters in scene[6] for _ in letters]
                if kind == "any":
                    fresh = [some_deed(rng, scene, 15)]
                for deed in fresh:
                    deeds.append(deed)
                    scene = model.behind(scene, deed)
            for apart in {(), (0,), (rng.randrange(first[1][0]),)}:
                shown.append(self.one(rng, first, tuple(deeds), apart))
        self.assertGreater(len(set(shown)), 4)


class Refused(unittest.TestCase):
    def asks(self, *, scene=TWO, deeds=WAVE, begin=0, end=6, apart=()):
        return (
            lambda: is_wave(scene, deeds, begin, end, apart=apart), lambda: waves(scene, deeds, apart=apart),
            lambda: wave_ends(scene, deeds, apart=apart), lambda: shows_waves(scene, deeds, None, apart=apart),
        )

    def test_no_scene_then_no_run(self):
        for thing in ODD:
            for ask in self.asks(scene=thing, deeds=None, begin=None, apart=None):
                self.assertRaises(NoScene, ask)
        for deeds, at in ((None, 0), (WAVE + (("hear", 0, 1),), 6), (WAVE * 400, 2000)):
            for ask in self.asks(deeds=deeds, begin=None, end=None, apart=None):
                with self.assertRaises(NoRun) as told:
                    ask()
                self.assertEqual(told.exception.at, at)

    def test_no_moment(self):
        for moment in (7, -1, True, None, "0", (0,), [], 10 ** 39):
            for begin, end in ((moment, "x"), (moment, 6), (0, moment), (6, moment)):
                with self.assertRaises(NoNumber) as told:
                    is_wave(TWO, WAVE, begin, end, apart=None)
                self.assertIs(told.exception.number, moment)

    def test_no_seats_apart(self):
        for apart in (0, None, [0], (1, 0), (0, 0), (2,), (True,), ("0",), (None,), {}, "01", (0, 1, 2)):
            for ask in self.asks(apart=apart) + self.asks(begin=6, end=0, apart=apart):
                with self.assertRaises(NoSeat) as told:
                    ask()
                self.assertIs(told.exception.seat, apart)

    def test_apart_is_told_by_name(self):
        self.assertRaises(TypeError, waves, TWO, WAVE, (0,))
        star = right_scene((LEAST,), STAR, (1, 2, 3, 4, 5), (0,) * 5)
        self.assertEqual(waves(star, (("reckon", 0), ("reckon", 1)), apart=(2, 3, 4)), 1)
