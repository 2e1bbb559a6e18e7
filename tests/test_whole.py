"""[3]: the whole promise, whatever the seats are called, in whatever order deeds are done that don't meet."""

import unittest

from comeright.cases.shown import shows_break, shows_ranks
from comeright.cases.verdicts import comes_right, verdict
from comeright.house.house import House
from comeright.layers.piles import is_pile_right, pile_behind, piled
from comeright.looks.chains import chain, is_unfounded, wrong_levels
from comeright.looks.looks import alarms
from comeright.made.ofplans import mark_of, plan_case, small_run
from comeright.plain.plain import plain_tells
from comeright.plain.reach import reach
from comeright.runs.even import even_behind, even_wave, need
from comeright.runs.grounds import ground, stamps
from comeright.runs.runs import behind, is_run, scene_at
from comeright.runs.sure import sure, sure_tells
from comeright.runs.waves import waves
from comeright.scenes.scenes import is_right, loud_scene, plain_of, right_scene, tells
from tests import model
from tests.cases import some_case
from tests.samples import rng_of, some_parts, some_run, some_scene, some_wavy_run


def renamed_row(names, row):
    """A row of one part for each seat, by the new names."""
    told = [None] * len(row)
    for seat, part in enumerate(row):
        told[names[seat]] = part
    return tuple(told)


def renamed_ways(names, entries):
    return tuple(sorted((names[s], names[u], held) for s, u, held in entries))


def renamed(names, scene):
    plans, web, words, goes, rows, copies, roads = scene
    ties = tuple(sorted(tuple(sorted((names[a], names[b]))) for a, b in web[1]))
    rows = [renamed_row(names, row) for row in (words, goes, rows)]
    return (plans, (web[0], ties), rows[0], rows[1], rows[2], renamed_ways(names, copies), renamed_ways(names, roads))


def renamed_deed(names, deed, near):
    """A deed by the new names; near are the neighbours of its seat as they are then."""
    if deed[0] in ("reckon", "word", "goes"):
        return (deed[0], names[deed[1]]) + deed[2:]
    if deed[0] == "strike":
        order = sorted(range(len(near)), key=lambda at: names[near[at]])
        row, copies, out, into = deed[2]
        return ("strike", names[deed[1]], (row,) + tuple(tuple(part[at] for at in order) for part in (copies, out, into)))
    a, b = names[deed[1]], names[deed[2]]
    if deed[0] == "put" and a > b:
        here, there, on, back = deed[3]
        return ("put", b, a, (there, here, back, on))
    if deed[0] == "cut":
        return ("cut", min(a, b), max(a, b))
    return (deed[0], a, b) + deed[3:]


def renamed_run(names, scene, deeds):
    world, told = model.Model(scene), []
    for deed in deeds:
        told.append(renamed_deed(names, deed, world.near(deed[1])))
        world.do(deed)
    return tuple(told)


class Renamed(unittest.TestCase):
    def test_seats_renamed(self):
        rng = rng_of(3)
        for number in range(40):
            scene = some_scene(rng, 5) if number % 2 else right_scene(*some_parts(rng, 5))
            names = list(range(scene[1][0]))
            rng.shuffle(names)
            other = renamed(names, scene)
            deeds = some_run(rng, scene, 30, rng.choice((0, 20)))
            others = renamed_run(names, scene, deeds)
            self.assertEqual(renamed(names, behind(scene, deeds)), behind(other, others))
            for right in {False, is_right(scene)}:
                rows, copies, roads = sure(scene, deeds, right=right)
                told = (renamed_row(names, rows), renamed_ways(names, copies), renamed_ways(names, roads))
                self.assertEqual(sure(other, others, right=right), told)
                self.assertEqual(
                    sure_tells(other, others, right=right), tuple(sorted(names[s] for s in sure_tells(scene, deeds, right=right)))
                )
            self.assertEqual(alarms(other), tuple(sorted(names[s] for s in alarms(scene))))
            self.assertEqual(wrong_levels(other), tuple(sorted((names[s], i) for s, i in wrong_levels(scene))))
            self.assertEqual(need(other), need(scene))
            for s, i in wrong_levels(scene):
                self.assertIs(is_unfounded(other, names[s], i), is_unfounded(scene, s, i))
                self.assertIsNotNone(chain(other, names[s], i))


def touched(deed):
    """What a deed of a calm run reads or makes: rows, copies, roads."""
    if deed[0] == "reckon":
        return {("row", deed[1]), ("copies of", deed[1])}
    if deed[0] == "hear":
        return {("copies of", deed[1]), ("road", deed[2], deed[1])}
    if deed[0] == "send":
        return {("row", deed[1]), ("road", deed[1], deed[2])}
    return {("road", deed[1], deed[2])}


class Exchanged(unittest.TestCase):
    def test_deeds_exchanged(self):
        rng = rng_of(31)
        many = 0
        for number in range(25):
            scene = some_scene(rng, 5) if number % 2 else right_scene(*some_parts(rng, 5))
            deeds = list(some_wavy_run(rng, scene, 40, 0))
            first = tuple(deeds)
            for _ in range(200):
                at = rng.randrange(len(deeds) - 1)
                if not touched(deeds[at]) & touched(deeds[at + 1]):
                    deeds[at], deeds[at + 1] = deeds[at + 1], deeds[at]
                    many += 1
            told = tuple(deeds)
            self.assertIs(is_run(scene, told), True)
            self.assertEqual(behind(scene, told), behind(scene, first))
            for right in {False, is_right(scene)}:
                self.assertEqual(sure(scene, told, right=right), sure(scene, first, right=right))
            for seat, stamp in enumerate(stamps(scene, told)):
                self.assertEqual(stamp is None, stamps(scene, first)[seat] is None)
                for level in range(len(scene[4][0])):
                    self.assertEqual(ground(scene, told, seat, level) is None, ground(scene, first, seat, level) is None)
        self.assertGreater(many, 500)


class Promise(unittest.TestCase):
    def right_where_sure(self, scene, deeds, right):
        """At each moment each level that is told sure is the plain run's of that moment."""
        for moment in range(len(deeds) + 1):
            now = scene_at(scene, deeds, moment)
            plain = plain_of(now)
            rows, copies, roads = sure(scene, deeds[:moment], right=right)
            for s, number in enumerate(rows):
                self.assertEqual(now[4][s][:number], plain[s][:number])
            for (s, u, number), (_, _, row) in zip(copies, now[5]):
                self.assertEqual(row[:number], plain[u][:number])
            for (s, u, numbers), (_, _, letters) in zip(roads, now[6]):
                self.assertTrue(all(row[:k] == plain[s][:k] for k, row in zip(numbers, letters)))
            for seat in sure_tells(scene, deeds[:moment], right=right):
                self.assertEqual(tells(now)[seat], plain[seat][len(now[0][now[3][seat]][1])])

    def test_at_each_moment(self):
        rng = rng_of(32)
        for number in range(16):
            scene = some_scene(rng, 4) if number % 2 else right_scene(*some_parts(rng, 4))
            deeds = (some_run if number % 4 < 2 else some_wavy_run)(rng, scene, 40, 8)
            self.right_where_sure(scene, deeds, is_right(scene))

    def test_plans_changed_seat_by_seat(self):
        rng = rng_of(33)
        for _ in range(20):
            plans, web, words, goes = some_parts(rng, 5)
            scene = right_scene(plans, web, words, goes)
            new = tuple(rng.randrange(len(plans)) for _ in goes)
            deeds = ()
            for seat, number in enumerate(new):
                deeds += (("goes", seat, number),)
                if rng.random() < 0.5:
                    deeds += even_wave(behind(scene, deeds))
            most = max(max(row) for row in reach(plans, web, new))
            self.right_where_sure(scene, deeds[:40], True)
            last = behind(scene, deeds)
            ends = ()
            for _ in range(most + 1):
                ends += even_wave(behind(last, ends))
            self.assertGreaterEqual(waves(last, ends), most + 1)
            self.assertEqual(sure(scene, deeds + ends)[0], (len(scene[4][0]),) * web[0])
            self.assertEqual(tells(behind(last, ends)), plain_tells(plans, web, words, new))
            self.assertEqual(even_behind(last, most + 1), behind(last, ends))

    def test_what_some_seats_do_again_and_again(self):
        rng = rng_of(34)
        for _ in range(20):
            scene = some_scene(rng, 5)
            apart = (rng.randrange(scene[1][0]),)
            deeds, now = (), scene
            for _ in range(4):
                wave = even_wave(now)
                change = ("word", apart[0], rng.randrange(997))
                deeds += wave + (change,)
                now = behind(scene, deeds)
            steps = model.far(scene[1])
            numbers = sure(scene, deeds)[0]
            self.assertGreaterEqual(waves(scene, deeds, apart=apart), 4)
            for s, row in enumerate(reach(*scene[:2], scene[3])):
                away = steps[s, apart[0]]
                for i, far in enumerate(row):
                    if far < 4 and (away is None or far < away):
                        self.assertGreater(numbers[s], i)
                        self.assertEqual(now[4][s][i], plain_of(now)[s][i])


class Houses(unittest.TestCase):
    def right_where_sure(self, house):
        """Each level that a house tells sure is the plain run's of its scene."""
        now, plain = house.scene(), plain_of(house.scene())
        rows, copies, roads = house.sure()
        for s, number in enumerate(rows):
            self.assertEqual(now[4][s][:number], plain[s][:number])
        for (_, u, number), (_, _, row) in zip(copies, now[5]):
            self.assertEqual(row[:number], plain[u][:number])
        for (s, _, numbers), (_, _, letters) in zip(roads, now[6]):
            self.assertTrue(all(row[:k] == plain[s][:k] for k, row in zip(numbers, letters)))
        self.assertIs(house.is_right(), house.alarms() == ())
        for place in wrong_levels(now):
            self.assertLessEqual(rows[place[0]], place[1])
            steps = model.far(now[1])
            reached = reach(*now[:2], now[3])[place[0]][place[1]]
            self.assertTrue(any(steps[place[0], seat] is not None and steps[place[0], seat] <= reached for seat in house.alarms()))

    def test_at_each_moment_of_a_house(self):
        rng = rng_of(35)
        for number in range(16):
            first = some_scene(rng, 4) if number % 2 else right_scene(*some_parts(rng, 4))
            house = House(first)
            for _ in range(10):
                now = house.scene()
                run = (some_run if rng.random() < 0.5 else some_wavy_run)(rng, now, 8, 10)
                for deed in run:
                    house.do(deed)
                    self.right_where_sure(house)
                twin = house.twin()
                twin.back(many=rng.randrange(len(house) + 1))
                self.right_where_sure(twin)

    def test_so_many_waves_and_all_is_right(self):
        rng = rng_of(36)
        for _ in range(20):
            house = House(some_scene(rng, 5))
            house.run(some_run(rng, house.scene(), 10, 50))
            most = max(max(row) for row in reach(*house.scene()[:2], house.scene()[3]))
            for many in range(most + 2):
                self.assertGreaterEqual(house.waves(), many)
                for s, row in enumerate(reach(*house.scene()[:2], house.scene()[3])):
                    self.assertGreaterEqual(house.sure()[0][s], len([far for far in row if far < many]))
                house.run(even_wave(house.scene()))
            self.assertIs(house.is_right(), True)
            self.assertEqual(house.alarms(), ())

    def test_far_from_all_changes_and_strikes(self):
        rng = rng_of(37)
        for _ in range(20):
            house = House(right_scene(*some_parts(rng, 6)))
            many = house.scene()[1][0]
            seat, other = rng.randrange(many), rng.randrange(many)
            row = (rng.randrange(997),) * len(house.scene()[4][0])
            near = model.near(house.scene()[1], other)
            struck = ("strike", other, (row, (row,) * len(near), ((row,),) * len(near), ((row, row),) * len(near)))
            steps = model.far(house.scene()[1])
            for deed in (("word", seat, 5), struck):
                house.do(deed)
                house.run(even_wave(house.scene()))
            plain = plain_of(house.scene())
            for s, far in enumerate(reach(*house.scene()[:2], house.scene()[3])):
                for level, reached in enumerate(far):
                    if all(steps[s, c] is None or steps[s, c] > reached for c in (seat, other)):
                        self.assertGreater(house.sure()[0][s], level)
                        self.assertEqual(house.scene()[4][s][level], plain[s][level])


class Others(unittest.TestCase):
    def test_piles_come_right_one_behind_another(self):
        rng = rng_of(38)
        for _ in range(12):
            lower = some_scene(rng, 5)
            plans, _, _, goes = some_parts(rng, 1)
            upper = loud_scene(plans, lower[1], (0,) * lower[1][0], (goes[0],) * lower[1][0])
            pile = piled(lower, upper)
            for which, part in (("lower", 0), ("upper", 1)):
                most = max(max(row) for row in reach(*pile[part][:2], pile[part][3]))
                for _ in range(most + 1):
                    pile = pile_behind(pile, tuple((which, deed) for deed in even_wave(pile[part])))
            self.assertIs(is_pile_right(pile), True)
            self.assertEqual(tells(pile[1]), plain_tells(*pile[1][:2], plain_tells(*pile[0][:4]), pile[1][3]))

    def test_a_plan_s_own_table_comes_right_by_all_four(self):
        rng = rng_of(39)
        for _ in range(20):
            base, rounds, most = rng.choice(((2, 0, 6), (2, 1, 4), (2, 2, 3), (3, 1, 3), (3, 0, 5), (9, 0, 2), (5, 0, 3)))
            plans, web, words, _ = some_parts(rng, most)
            plan = (plans[0][0], (plans[0][1] * 3 + (("sum",),) * 3)[:rounds])
            told = set()
            for movers in ("one", "some", "all", "turn"):
                case = plan_case(web, words, plan, base=base, movers=movers)
                self.assertIs(comes_right(case), True)
                self.assertIs(shows_ranks(case, verdict(case)[1]), True)
                told.add(case[1])
            rows = small_run(web, words, plan, base=base)
            self.assertEqual(told, {(tuple(mark_of(row, base=base) for row in rows),)})

    def test_ranks_or_a_break_just_one_of_both(self):
        rng = rng_of(40)
        for _ in range(150):
            table, right, _ = some_case(rng, 64)
            told = {}
            for movers in ("one", "some", "all", "turn"):
                case = (table, right, movers)
                told[movers] = verdict(case)
                self.assertIs(shows_ranks(case, told[movers][1]), told[movers][0] == "ranks")
                self.assertIs(shows_break(case, told[movers]), told[movers][0] != "ranks")
                for other in told.values():
                    if other[0] != "ranks":
                        self.assertFalse(shows_break(case, other) and told[movers][0] == "ranks")
            if told["some"][0] == "ranks":
                self.assertEqual({row[0] for row in told.values()}, {"ranks"})
