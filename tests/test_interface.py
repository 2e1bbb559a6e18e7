"""The interface as it is listed: names, arguments, and the files that they are defined in."""

import importlib
import inspect
import unittest

LISTED = {
    "webs.webs": ("is_web(thing)", "neighbours(web, seat)", "steps(web, seat, other)", "steps_to(web, seats)",
                  "within(web, seat, far)"),
    "plans.terms": ("is_first(thing)", "is_next(thing)", "does_look(term)", "comes_to(term, worth, heap)"),
    "plans.plans": ("is_plan(thing)", "is_plans(thing)", "rounds(plan)", "width(plans)", "looking(plan)"),
    "plain.plain": ("is_words(web, thing)", "is_goes(plans, web, thing)", "levels(plans, web, words, goes)",
                    "plain_tells(plans, web, words, goes)"),
    "plain.reach": ("reach(plans, web, goes)",),
    "scenes.scenes": ("is_scene(thing)", "right_scene(plans, web, words, goes)", "flat_scene(plans, web, words, goes)",
                      "loud_scene(plans, web, words, goes)", "is_right(scene)", "plain_of(scene)", "tells(scene)",
                      "row_of(scene, seat)", "copy_of(scene, seat, other)", "road_of(scene, seat, other)"),
    "scenes.deeds": ("is_deed(scene, thing)", "is_change(scene, deed)", "changed(scene, deed)", "done(scene, deed)"),
    "runs.runs": ("is_run(scene, thing)", "behind(scene, deeds)", "scene_at(scene, deeds, moment)",
                  "last_change(scene, deeds)"),
    "runs.waves": ("is_wave(scene, deeds, begin, end, *, apart=())", "waves(scene, deeds, *, apart=())",
                   "wave_ends(scene, deeds, *, apart=())", "shows_waves(scene, deeds, thing, *, apart=())"),
    "runs.sure": ("sure(scene, deeds, *, right=False)", "sure_tells(scene, deeds, *, right=False)"),
    "runs.grounds": ("stamps(scene, deeds)", "ground(scene, deeds, seat, level)",
                     "shows_ground(scene, deeds, seat, level, thing)"),
    "looks.looks": ("agrees(scene, seat)", "alarms(scene)"),
    "looks.chains": ("wrong_levels(scene)", "is_unfounded(scene, seat, level)", "chain(scene, seat, level)",
                     "shows_chain(scene, seat, level, thing)"),
    "runs.even": ("even_wave(scene)", "even_behind(scene, many)", "need(scene)"),
    "plans.made": ("made_plan(word, rounds)",),
    "layers.joined": ("joined(lower, upper)",),
    "layers.piles": ("piled(lower, upper)", "is_pile(thing)", "is_pile_deed(pile, thing)", "pile_behind(pile, deeds)",
                     "parted(pile, deeds)", "is_pile_right(pile)"),
    "tables.tables": ("is_table(thing)", "standings(table)", "is_standing(table, thing)", "view(table, seat, standing)",
                      "moves(table, seat, standing)", "able_seats(table, standing)"),
    "tables.movers": ("nexts(table, standing, movers)", "is_walk(table, movers, thing)"),
    "tables.rules": ("is_rules(thing, *, looks)", "ruled(size, seats)"),
    "tables.wishes": ("is_wish(thing, *, seats)", "wished(table, wish)"),
    "cases.verdicts": ("is_case(thing)", "verdict(case)", "comes_right(case)"),
    "cases.shown": ("shows_ranks(case, thing)", "shows_break(case, thing)"),
    "cases.lots": ("lots(case)", "binders(case, lot)"),
    "cases.longest": ("most_from(case, standing)", "least_ranks(case)", "longest(case)", "shows_longest(case, thing)"),
    "made.written": ("ring(seats, size, *, movers='one')", "hues(web, size, *, movers='one')", "alone(web, *, movers='one')",
                     "tops(web, top, size, *, movers='one')"),
    "made.ofplans": ("small_run(web, words, plan, *, base)", "plan_case(web, words, plan, *, base, movers='some')",
                     "mark_of(row, *, base)", "row_of(mark, *, base, rounds)"),
    "words.texts": ("numbers_text(numbers)", "web_text(web)", "plan_text(plan)", "plans_text(plans)", "deed_text(deed)",
                    "rules_text(size, seats)", "wish_text(wish, *, seats)", "read_web(text)", "read_plan(text)",
                    "read_plans(text)", "read_deed(text)", "read_rules(text)", "read_wish(text, *, seats)"),
}
CLASSES = {
    ("house.house", "House"): (
        "__init__(self, scene)", "do(self, deed)", "reckon(self, seat)", "send(self, seat, other)", "hear(self, seat, other)",
        "run(self, deeds)", "first(self)", "scene(self)", "log(self)", "told(self, seat)", "is_right(self)", "sure(self)",
        "waves(self)", "alarms(self)", "back(self, *, many=1)", "twin(self)", "__eq__(self, other)", "__len__(self)",
        "__str__(self)", "__repr__(self)",
    ),
    ("words.desk", "Desk"): (
        "__init__(self)", "say(self, row)", "say_all(self, rows)", "house(self)", "case(self)", "log(self)", "__len__(self)",
    ),
}
NUMBERS = {
    "webs.webs": {"MOST_SEATS": 12}, "plans.terms": {"WORTHS": 997}, "plans.plans": {"MOST_ROUNDS": 6, "MOST_PLANS": 3},
    "scenes.scenes": {"ROAD": 8}, "runs.runs": {"MOST_DEEDS": 2000},
    "plans.made": {"MADE": ("least", "most", "steps", "walks")}, "tables.tables": {"MOST_STANDINGS": 729},
    "tables.movers": {"MOVERS": ("one", "some", "all", "turn")}, "cases.verdicts": {"MOST_NEXTS": 20000},
}


class Interface(unittest.TestCase):
    def test_defs(self):
        for name, listed in LISTED.items():
            module = importlib.import_module("comeright." + name)
            for row in listed:
                asked = getattr(module, row.partition("(")[0])
                self.assertEqual(asked.__name__ + str(inspect.signature(asked)), row)
                self.assertEqual(asked.__module__, module.__name__)

    def test_classes(self):
        for (name, word), listed in CLASSES.items():
            made = getattr(importlib.import_module("comeright." + name), word)
            self.assertEqual(made.__module__, "comeright." + name)
            for row in listed:
                asked = vars(made)[row.partition("(")[0]]
                self.assertEqual(asked.__name__ + str(inspect.signature(asked)), row)

    def test_numbers(self):
        for name, listed in NUMBERS.items():
            module = importlib.import_module("comeright." + name)
            for word, number in listed.items():
                self.assertEqual(getattr(module, word), number)

    def test_ops(self):
        terms = importlib.import_module("comeright.plans.terms")
        self.assertIs(type(terms.OPS), dict)
        for op in terms.OPS.values():
            self.assertEqual(len(inspect.signature(op).parameters), 2)
