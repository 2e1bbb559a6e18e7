"""[2]: what is refused, with which error, bearing what; and that nothing handed in is changed."""

import unittest

from comeright import errors
from comeright.cases.longest import least_ranks, longest, most_from, shows_longest
from comeright.cases.lots import binders, lots
from comeright.cases.shown import shows_break, shows_ranks
from comeright.cases.verdicts import comes_right, is_case, verdict
from comeright.layers.joined import joined
from comeright.layers.piles import is_pile, is_pile_deed, is_pile_right, parted, pile_behind, piled
from comeright.looks.chains import chain, is_unfounded, shows_chain, wrong_levels
from comeright.looks.looks import agrees, alarms
from comeright.made import ofplans
from comeright.made.ofplans import mark_of, plan_case, small_run
from comeright.made.written import alone, hues, ring, tops
from comeright.plain.plain import is_goes, is_words, levels, plain_tells
from comeright.plain.reach import reach
from comeright.plans.made import made_plan
from comeright.plans.plans import is_plan, is_plans, looking, rounds, width
from comeright.plans.terms import comes_to, does_look, is_first, is_next
from comeright.runs.even import even_behind, even_wave, need
from comeright.runs.grounds import ground, shows_ground, stamps
from comeright.runs.runs import behind, is_run, last_change, scene_at
from comeright.runs.sure import sure, sure_tells
from comeright.runs.waves import is_wave, shows_waves, wave_ends, waves
from comeright.scenes.deeds import changed, done, is_change, is_deed
from comeright.scenes.scenes import (
    copy_of, flat_scene, is_right, is_scene, loud_scene, plain_of, right_scene, road_of, row_of, tells,
)
from comeright.tables.movers import is_walk, nexts
from comeright.tables.rules import is_rules, ruled
from comeright.tables.tables import able_seats, is_standing, is_table, moves, standings, view
from comeright.tables.wishes import is_wish, wished
from comeright.webs.webs import is_web, neighbours, steps, steps_to, within
from comeright.words.texts import (
    deed_text, numbers_text, plan_text, plans_text, read_deed, read_plan, read_plans, read_rules, read_web, read_wish, rules_text,
    web_text, wish_text,
)
from tests.samples import LINE, ODD, PLANS, deep, spoiled

WORDS, GOES = (5, 9, 3, 7), (0, 1, 2, 0)
SCENE = right_scene(PLANS, LINE, WORDS, GOES)
FLAT = flat_scene(PLANS, LINE, WORDS, GOES)
TERM = ("if", ("ties",), ("low", ("own",), ("least",)), ("own",))
RUN = (("send", 0, 1), ("hear", 1, 0), ("word", 3, 8), ("reckon", 3))

WEB = (LINE, "NoWeb", None)
SEAT = (1, "NoSeat", "seat")
OTHER = (2, "NoSeat", "seat")
SEATS = ((0, 2), "NoSeat", "seat")
PARTS = ((PLANS, "NoPlans", None), WEB, (WORDS, "NoWords", None), (GOES, "NoGoes", None))
A_SCENE = (SCENE, "NoScene", None)
A_RUN = (RUN, "NoRun", "at")
MOMENT = (3, "NoNumber", "number")
CALM = (RUN[:2] + RUN[3:], "NoRun", "at")
LEVEL = (2, "NoNumber", "number")
A_PLAN = (PLANS[1], "NoPlan", None)
PILE = (piled(SCENE, FLAT), "NoPile", None)
PILE_RUN = ((("lower", ("reckon", 0)), ("upper", ("reckon", 0))), "NoRun", "at")
# Of four seats each looks at all others, and may move to where the first of them stands.
SHY = tuple((a,) if a != own else () for own in (0, 1) for a in (0, 1) for _ in range(4))
TABLE = ((2, tuple((tuple(u for u in range(4) if u != s), SHY) for s in range(4))), "NoTable", None)
STANDING = ((0, 1, 1, 0), "NoStanding", None)
SOME = ("some", "NoMovers", None)
HANDS = (((1,), ((("look", 0), 0),)), ((), ((1, ("plus", ("own",), 1)),)))
WISH = (("same", ("mark", 0), ("mark", 3)), "NoWish", None)
RIGHT = tuple(standing for standing in standings(TABLE[0]) if not able_seats(TABLE[0], standing))
CASE = ((TABLE[0], RIGHT, "some"), "NoCase", None)
HUES = (hues(LINE, 3), "NoCase", None)
TURN_CASE = ((TABLE[0], RIGHT, "turn"), "NoCase", None)
# Of each def of the interface its arguments, each with what it is refused with, and what that bears.
ASKS = (
    (neighbours, (WEB, SEAT)), (steps, (WEB, SEAT, OTHER)), (steps_to, (WEB, SEATS)),
    (within, (WEB, SEAT, (2, "NoNumber", "number"))), (does_look, ((TERM, "NoTerm", None),)),
    (comes_to, ((TERM, "NoTerm", None), (4, "NoNumber", "number"), ((1, 2), "NoWords", None))),
    (rounds, ((PLANS[0], "NoPlan", None),)), (looking, ((PLANS[0], "NoPlan", None),)), (width, PARTS[:1]),
    (is_words, (WEB, (WORDS, None, None))), (is_goes, (PARTS[0], WEB, (GOES, None, None))), (levels, PARTS),
    (plain_tells, PARTS), (reach, (PARTS[0], WEB, PARTS[3])), (right_scene, PARTS), (flat_scene, PARTS),
    (loud_scene, PARTS), (is_right, (A_SCENE,)), (plain_of, (A_SCENE,)), (tells, (A_SCENE,)), (row_of, (A_SCENE, SEAT)),
    (copy_of, (A_SCENE, SEAT, OTHER)), (road_of, (A_SCENE, SEAT, OTHER)), (is_deed, (A_SCENE, (RUN[0], None, None))),
    (is_change, (A_SCENE, (RUN[0], "NoDeed", None))), (changed, (A_SCENE, (RUN[0], "NoDeed", None))),
    (done, (A_SCENE, (RUN[0], "NoDeed", None))), (is_run, (A_SCENE, (RUN, None, None))), (behind, (A_SCENE, A_RUN)),
    (scene_at, (A_SCENE, A_RUN, MOMENT)), (last_change, (A_SCENE, A_RUN)),
    (is_wave, (A_SCENE, A_RUN, MOMENT, MOMENT)), (waves, (A_SCENE, A_RUN)), (wave_ends, (A_SCENE, A_RUN)),
    (shows_waves, (A_SCENE, A_RUN, ((3, 4), None, None))), (sure, (A_SCENE, A_RUN)), (sure_tells, (A_SCENE, A_RUN)),
    (stamps, (A_SCENE, CALM)), (ground, (A_SCENE, CALM, SEAT, LEVEL)),
    (shows_ground, (A_SCENE, CALM, SEAT, LEVEL, (((2, 0),), None, None))), (agrees, (A_SCENE, SEAT)), (alarms, (A_SCENE,)),
    (wrong_levels, (A_SCENE,)), (is_unfounded, (A_SCENE, SEAT, LEVEL)), (chain, (A_SCENE, SEAT, LEVEL)),
    (shows_chain, ((FLAT, "NoScene", None), SEAT, LEVEL, (((1, 2), (1, 1)), None, None))), (even_wave, (A_SCENE,)), (need, (A_SCENE,)),
    (even_behind, (A_SCENE, (2, "NoNumber", "number"))), (made_plan, (("steps", "NoPlan", None), (4, "NoNumber", "number"))),
    (joined, (A_PLAN, A_PLAN)), (piled, (A_SCENE, A_SCENE)), (is_pile_deed, (PILE, (PILE_RUN[0][0], None, None))),
    (pile_behind, (PILE, PILE_RUN)), (parted, (PILE, PILE_RUN)), (is_pile_right, (PILE,)), (standings, (TABLE,)),
    (is_standing, (TABLE, (STANDING[0], None, None))), (view, (TABLE, SEAT, STANDING)), (moves, (TABLE, SEAT, STANDING)),
    (able_seats, (TABLE, STANDING)), (nexts, (TABLE, STANDING, SOME)),
    (is_walk, (TABLE, SOME, ((STANDING[0], (1, 1, 1, 0)), None, None))),
    (ruled, ((2, "NoRules", None), (HANDS, "NoRules", None))), (wished, (TABLE, WISH)), (verdict, (CASE,)),
    (comes_right, (CASE,)), (shows_ranks, (CASE, ((None, 0), None, None))), (shows_break, (CASE, (("stuck", 0), None, None))),
    (lots, (TURN_CASE,)), (binders, (TURN_CASE, (lots(TURN_CASE[0])[0], "NoLot", None))),
    (most_from, (CASE, STANDING)), (least_ranks, (CASE,)), (longest, (CASE,)), (shows_longest, (HUES, ((0, (), ()), None, None))),
    (ring, ((3, "NoNumber", "number"), (4, "NoNumber", "number"))), (hues, (WEB, (3, "NoNumber", "number"))), (alone, (WEB,)),
    (tops, (WEB, SEAT, (3, "NoNumber", "number"))), (numbers_text, (((1, 2), "NoNumber", "number"),)), (web_text, (WEB,)),
    (plan_text, (A_PLAN,)), (plans_text, (PARTS[0],)), (deed_text, ((RUN[0], "NoDeed", None),)),
    (rules_text, ((2, "NoRules", None), (HANDS, "NoRules", None))), (read_web, ((web_text(LINE), "NoText", "at"),)),
    (read_plan, ((plan_text(PLANS[0]), "NoText", "at"),)), (read_plans, ((plans_text(PLANS), "NoText", "at"),)),
    (read_deed, (("word 0 5", "NoText", "at"),)), (read_rules, ((rules_text(2, HANDS), "NoText", "at"),)),
)
# Of defs with arguments by name alone: those by place, then those by name, each with what it is refused with.
NAMED = (
    (ring, ((3, "NoNumber"), (4, "NoNumber")), {"movers": ("some", "NoMovers")}),
    (hues, ((LINE, "NoWeb"), (3, "NoNumber")), {"movers": ("some", "NoMovers")}),
    (alone, ((LINE, "NoWeb"),), {"movers": ("some", "NoMovers")}),
    (tops, ((LINE, "NoWeb"), (1, "NoSeat"), (3, "NoNumber")), {"movers": ("some", "NoMovers")}),
    (small_run, ((LINE, "NoWeb"), (WORDS, "NoWords"), (PLANS[2], "NoPlan")), {"base": (3, "NoBase")}),
    (plan_case, ((LINE, "NoWeb"), (WORDS, "NoWords"), (PLANS[2], "NoPlan")), {"base": (3, "NoBase"), "movers": ("all", "NoMovers")}),
    (mark_of, (((1, 0), "NoNumber"),), {"base": (3, "NoBase")}),
    (ofplans.row_of, ((5, "NoNumber"),), {"base": (3, "NoBase"), "rounds": (2, "NoNumber")}),
)
# Of these what is told by name goes ahead of all else.
NAMED_AHEAD = (
    (is_rules, (((), None),), {"looks": 2}), (is_wish, ((("able",), None),), {"seats": 2}),
    (wish_text, ((("able",), "NoWish"),), {"seats": 2}), (read_wish, (("able", "NoText"),), {"seats": 2}),
)
BY_NAME = (is_wave, waves, wave_ends, shows_waves)
CHECKS = (is_web, is_first, is_next, is_plan, is_plans, is_scene, is_pile, is_table, is_case)


def wrong_in(handed, at):
    """What cannot stand in this place, whatever the other arguments are."""
    return (None, "no", [handed[at]], {}, (True,), {"at": 0}, deep(lambda told: [told], 30), -(10 ** 39), True)


class Refused(unittest.TestCase):
    def refused(self, ask, handed, error, bearing, thing, **named):
        with self.assertRaises(getattr(errors, error)) as told:
            ask(*handed, **named)
        self.assertIs(type(told.exception), getattr(errors, error))
        if bearing == "at":
            self.assertEqual(told.exception.at, 0)
        elif bearing is not None:
            self.assertIs(getattr(told.exception, bearing), thing)

    def test_well_handed_in(self):
        for ask, arguments in ASKS:
            handed = [argument[0] for argument in arguments]
            before = repr(handed)
            told = ask(*handed)
            self.assertEqual(repr(ask(*handed)), repr(told))
            self.assertEqual(repr(handed), before)

    def test_one_is_wrong(self):
        for ask, arguments in ASKS:
            good = [argument[0] for argument in arguments]
            for at, (_, error, bearing) in enumerate(arguments):
                for wrong in wrong_in(good, at):
                    handed = good[:at] + [wrong] + good[at + 1:]
                    if error is None:
                        self.assertIs(ask(*handed), False)
                    else:
                        self.refused(ask, handed, error, bearing, wrong)

    def test_several_are_wrong(self):
        for ask, arguments in ASKS:
            good = [argument[0] for argument in arguments]
            for at, (_, error, bearing) in enumerate(arguments):
                for later in range(at + 1, len(arguments)):
                    if error is not None:
                        self.refused(ask, good[:at] + ["no"] + good[at + 1:later] + [None] + good[later + 1:], error,
                                     bearing, "no")
                        wrong = [None] * (len(good) - at)
                        self.refused(ask, good[:at] + wrong, error, bearing, None)

    def test_what_is_told_by_name_goes_last(self):
        for ask, arguments in ASKS:
            if ask in BY_NAME:
                good = [argument[0] for argument in arguments]
                self.refused(ask, good, "NoSeat", "seat", True, apart=True)
                for at, (_, error, bearing) in enumerate(arguments):
                    if error is not None:
                        self.refused(ask, good[:at] + [None] * (len(good) - at), error, bearing, None, apart=True)
                    else:
                        self.refused(ask, good[:at] + [None], "NoSeat", "seat", True, apart=True)

    def test_arguments_by_name(self):
        for ask, arguments, named in NAMED:
            good = [argument[0] for argument in arguments]
            names = {name: argument[0] for name, argument in named.items()}
            before = repr((good, names))
            self.assertEqual(repr(ask(*good, **names)), repr(ask(*good, **names)))
            self.assertEqual(repr((good, names)), before)
            order = list(enumerate(arguments)) + list(named.items())
            for place, (at, (_, error)) in enumerate(order):
                for later, _ in order[place:]:
                    handed, by_name = list(good), dict(names)
                    for wrong in (at, later):
                        if type(wrong) is int:
                            handed[wrong] = None
                        else:
                            by_name[wrong] = None
                    self.assertRaises(getattr(errors, error), ask, *handed, **by_name)

    def test_arguments_by_name_ahead(self):
        for ask, arguments, named in NAMED_AHEAD:
            good = [argument[0] for argument in arguments]
            self.assertEqual(ask(*good, **named), ask(*good, **named))
            for wrong in ODD + (7, "no"):
                for thing in good + [None, "no"]:
                    (name,) = named
                    with self.assertRaises(errors.NoNumber) as told:
                        ask(thing, **{name: wrong})
                    self.assertIs(told.exception.number, wrong)
            if arguments[0][1] is not None:
                self.assertRaises(getattr(errors, arguments[0][1]), ask, None, **named)
            else:
                self.assertIs(ask(None, **named), False)

    def test_of_anything(self):
        for ask, arguments in ASKS:
            good = [argument[0] for argument in arguments]
            for at, (_, error, bearing) in enumerate(arguments):
                if error in (None, "NoSeat", "NoNumber", "NoWords"):
                    continue
                for thing in ODD:
                    # No deeds are a run, and a word is a plan, or begins a deed.
                    if (error, thing) not in (("NoRun", ()), ("NoText", "word"), ("NoText", "reckon")):
                        self.refused(ask, good[:at] + [thing] + good[at + 1:], error, bearing, thing)

    def test_a_part_of_it_is_wrong(self):
        for thing in list(spoiled(SCENE))[::7]:
            self.assertRaises(errors.NoScene, tells, thing)
        for thing in spoiled(LINE):
            self.assertRaises(errors.NoWeb, neighbours, thing, 0)
        for thing in spoiled(WORDS):
            self.assertRaises(errors.NoWords, levels, PLANS, LINE, thing, GOES)
        for thing in spoiled(GOES):
            self.assertRaises(errors.NoGoes, levels, PLANS, LINE, WORDS, thing)

    def test_checks_tell_truths_of_anything(self):
        for check in CHECKS:
            for thing in ODD:
                self.assertIs(check(thing), False)
        self.assertIs(is_first(0), True)
