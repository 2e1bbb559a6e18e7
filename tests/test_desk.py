"""[37]: a desk."""

import unittest

from comeright.cases.longest import longest
from comeright.cases.shown import shows_break
from comeright.cases.verdicts import verdict
from comeright.errors import ComeError, NoBack, NoCase, NoDeed, NoGoes, NoLine, NoSeat, NoTable, NoText, NoWords, TooLong, TooWide
from comeright.house.house import House
from comeright.scenes.scenes import flat_scene, loud_scene, right_scene
from comeright.tables.rules import ruled
from comeright.tables.tables import standings
from comeright.tables.wishes import wished
from comeright.words.desk import Desk
from comeright.words.texts import deed_text, plans_text, read_plans, read_rules, read_wish, rules_text, web_text, wish_text
from tests.samples import ODD, PLANS, rng_of, some_parts, some_run
from tests.test_rules import some_seats
from tests.test_wishes import some_wish

PLAN = "word ; if ties low own least own | 1"
BEGIN = "begin flat | 3 0-1,1-2 | 7,9,4 | 0,0,0 | " + PLAN
COPY = "table 2 | 1 : same own look 0 -> look 0 ; less 0 minus own look 0 -> look 0 | 0 : less 0 minus own look 0 -> look 0"
STEPS = ("table 2 | 1 : 1 -> look 0 | 0 : 1 -> look 0", "case one same able 0")
KINDS = {"right": right_scene, "flat": flat_scene, "loud": loud_scene}
ALONE = ("waves", "tells", "sure", "alarms", "right", "verdict", "most")


def numbers(row):
    return ",".join(map(str, row)) or "-"


def desk_of(*rows):
    desk = Desk()
    desk.say_all(rows)
    return desk


class Said(unittest.TestCase):
    def test_at_first(self):
        desk = Desk()
        self.assertEqual((desk.house(), desk.case(), desk.log(), len(desk)), (None, None, (), 0))

    def test_a_house(self):
        desk = Desk()
        told = desk.say_all((BEGIN, "tells", "do reckon 1", "do send 1 0", "do hear 0 1", "do reckon 0", "alarms", "sure", "waves", "told 0",
                             "right", "back 1", "told 0", "back 0", "do word 2 1", "do strike 0 5,6 4,4 1,2/3,4 -", "tells", "back 5", "tells"))
        self.assertEqual(told, ("ok", "0,0,0", "ok", "ok", "ok", "ok", "1,2", "2,1,0", "0", "7", "no", "ok", "0", "ok", "ok", "ok", "6,0,0", "ok", "0,0,0"))
        self.assertEqual(desk.house(), House(flat_scene(read_plans(PLAN), (3, ((0, 1), (1, 2))), (7, 9, 4), (0, 0, 0))))
        self.assertEqual(desk.say_all(("begin right | 1 - | 5 | 1 | word | ties ; own", "right", "alarms", "sure", "tells", "waves")), ("ok", "yes", "-", "2", "0", "0"))

    def test_each_kind_of_scene(self):
        rng = rng_of(37)
        for number in range(45):
            kind = ("right", "flat", "loud")[number % 3]
            plans, web, words, goes = some_parts(rng, 6)
            first = KINDS[kind](plans, web, words, goes)
            desk, house = Desk(), House(first)
            row = f"begin {kind} | {web_text(web)} | {numbers(words)} | {numbers(goes)} | {plans_text(plans)}"
            if len(plans_text(plans)) > 4000:
                continue
            self.assertEqual(desk.say(row), "ok")
            self.assertEqual(desk.house(), house)
            for deed in some_run(rng, first, 15, 15):
                self.assertEqual(desk.say("do " + deed_text(deed)), "ok")
                house.do(deed)
                self.assertEqual(desk.house(), house)
                if rng.random() < 0.1:
                    many = rng.randrange(len(house) + 1)
                    self.assertEqual(desk.say(f"back {many}"), "ok")
                    house.back(many=many)
                    break
            told = desk.say_all(("waves", "tells", "sure", "alarms", "right"))
            tells = [house.told(seat) for seat in range(web[0])]
            self.assertEqual(told, (str(house.waves()), numbers(tells), numbers(house.sure()[0]), numbers(house.alarms()), "yes" if house.is_right() else "no"))
            self.assertEqual([desk.say(f"told {seat}") for seat in range(web[0])], [str(worth) for worth in tells])

    def test_tables_and_cases(self):
        desk = Desk()
        self.assertEqual(desk.say_all(STEPS + ("verdict", "most", "case some same able 0", "verdict", "most")), ("ok", "2", "ranks", "1", "2", desk_ring(desk), "none"))
        self.assertEqual(desk.case(), (ruled(*read_rules(STEPS[0][6:])), ((0, 0), (1, 1)), "some"))
        self.assertEqual(desk.say_all(("case all 0", "verdict")), ("0", "stuck 0,0"))
        self.assertEqual(desk.say_all(("table 3 | - : 1 -> plus own 1", "case one same mark 0 1", "verdict")), ("ok", "1", "left 1 2"))
        self.assertEqual(desk.say_all(("case one 1", "verdict", "most")), ("3", "ranks", "0"))
        self.assertEqual(desk.say("case turn 0"), "0")
        self.assertIn(desk.say("verdict"), ("ring 0 1 2", "ring 1 2 0", "ring 2 0 1"))

    def test_some_tables_and_cases(self):
        rng = rng_of(371)
        seen = []
        for _ in range(120):
            size, seats = some_seats(rng, 81)
            if len(rules_text(size, seats)) > 4000:
                continue
            desk = Desk()
            table = ruled(size, seats)
            movers, wish = rng.choice(("one", "some", "all", "turn")), some_wish(rng, len(seats), 3)
            right = wished(table, wish)
            self.assertEqual(desk.say("table " + rules_text(size, seats)), "ok")
            self.assertEqual(desk.say(f"case {movers} {wish_text(wish, seats=len(seats))}"), str(len(right)))
            case = (table, right, movers)
            self.assertEqual(desk.case(), case)
            words = desk.say("verdict").split(" ")
            seen.append(words[0])
            if words[0] == "ranks":
                self.assertEqual((words, verdict(case)[0]), (["ranks"], "ranks"))
            else:
                rows = tuple(tuple(int(mark) for mark in word.split(",")) for word in words[1:])
                self.assertIs(shows_break(case, (words[0], rows) if words[0] == "ring" else (words[0],) + rows), True)
            if movers == "turn":
                self.assertRaises(NoCase, desk.say, "most")
            else:
                self.assertEqual(desk.say("most"), str(longest(case)[0]) if words == ["ranks"] else "none")
        self.assertEqual(set(seen), {"ranks", "stuck", "left", "ring"})

    def test_a_new_table_leaves_the_case(self):
        desk = desk_of(*STEPS)
        case = desk.case()
        self.assertEqual(desk.say("table 3 | - : 1 -> plus own 1"), "ok")
        self.assertEqual(desk.case(), case)
        self.assertEqual(desk.say_all(("verdict", "most")), ("ranks", "1"))
        self.assertRaises(NoText, desk.say, "case one mark 1")
        self.assertEqual(desk.case(), case)
        self.assertEqual(desk.say("case one mark 0"), "2")
        self.assertEqual(len(desk.case()[0][1]), 1)


def desk_ring(desk):
    """The break that is told of two that take one another's mark, whichever it is."""
    return " ".join(["ring"] + [numbers(standing) for standing in verdict((ruled(*read_rules(STEPS[0][6:])), ((0, 0), (1, 1)), "some"))[1]])


class Refused(unittest.TestCase):
    def refuses(self, desk, row, error, **borne):
        before = (repr(desk.house()), desk.house() and desk.house().log(), desk.case(), len(desk))
        log = desk.log()
        with self.assertRaises(error, msg=row) as told:
            desk.say(row)
        self.assertIs(type(told.exception), error)
        for name, thing in borne.items():
            self.assertEqual(getattr(told.exception, name), thing, row)
        self.assertEqual((repr(desk.house()), desk.house() and desk.house().log(), desk.case(), len(desk) - 1), before)
        kept = row if type(row) is str else ""
        self.assertEqual(desk.log(), log + (("in", kept), ("out", kept)))

    def test_no_line(self):
        full = desk_of(BEGIN, *STEPS)
        for desk in (full, Desk()):
            for row in [thing for thing in ODD if thing not in ("word", "reckon")] + [
                "word", "Waves", "waves ", " waves", "waves 1", "tells x", "right 0", "verdict ranks", "most 1", "do", "back", "told", "told 00", "told -1",
                "told x", "told 1 2", "told ", "back ", "back 1.0", "back one", "back 01", "begin", "begin ", "begin flat", "table", "case", "case one",
                "begin flat | 3 - | 1 | 1", "begin square | 3 - | 1,1,1 | 0,0,0 | 1", "begin Flat | 3 - | 1,1,1 | 0,0,0 | 1",
                "begin  flat | 3 - | 1,1,1 | 0,0,0 | 1", "begin flat| 3 - | 1,1,1 | 0,0,0 | 1", "case any 1", "case One 1", "case  one 1", "hear 0 1",
                "beginflat | 3 - | 1 | 1 | 1", "waves\n", "begin flat | 3 - | 1 | 1 |", ("waves",), ["waves"], "ok", "yes",
            ]:
                self.refuses(desk, row, NoLine)

    def test_ahead_of_a_house_a_table_a_case(self):
        desk = Desk()
        for row in ("do reckon 0", "do x", "do ", "back 1", "told 0", "case one 1", "case one x") + ALONE:
            self.refuses(desk, row, NoLine)
        desk.say(BEGIN)
        for row in ("case one 1", "verdict", "most"):
            self.refuses(desk, row, NoLine)
        desk.say(STEPS[0])
        for row in ("verdict", "most"):
            self.refuses(desk, row, NoLine)
        self.refuses(desk, "case one x", NoText, at=0)
        self.refuses(desk, "verdict", NoLine)

    def test_no_text_of_the_first_part(self):
        desk = desk_of(BEGIN, *STEPS)
        for row, at in (
            ("begin flat | x | x | x | x", 0), ("begin flat | 3 | x | x | x", 1), ("begin flat | 3 - 1 | x | x | x", 2), ("begin flat | 3 0-3 | 1 | 1 | 1", 1),
            ("begin flat | 3 - | x | x | x", 0), ("begin flat | 3 - | 1 2 | x | x", 1), ("begin flat | 3 - |  | x | x", 0), ("begin flat | 3 - | 1,01 | x | x", 0),
            ("begin flat | 3 - | 1 | x 1 | x", 0), ("begin flat | 3 - | 1 | 1 1 | x", 1), ("begin flat | 3 - | 1 | 1 | x", 0), ("begin flat | 3 - | 1 | 1 | ", 0),
            ("begin flat | 3 - | 1 | 1 | 1 | 1 | 1 | 1", 5), ("begin flat | 3 - | 1 | 1 | 1 ;", 2), ("begin flat | 3 - | 1 | 1 | own", 0),
            ("do ", 0), ("do reckon", 1), ("do reckon 12", 1), ("do reckon 0 0", 2), ("do x", 0), ("do  reckon 0", 0), ("table ", 0), ("table 1", 0),
            ("table 2 | - : 1", 5), ("table 9 | - : - | - : x", 8), ("case one ", 0), ("case one mark 2", 1), ("case turn own", 0), ("case all 1 1", 1),
            ("case one plus 1", 2), ("do " + "0" * 4001, 0), ("table " + "2" + " " * 4000, 0),
        ):
            self.refuses(desk, row, NoText, at=at)

    def test_then_as_the_rest_refuses(self):
        desk = desk_of(BEGIN, *STEPS)
        for row, error in (
            ("begin flat | 3 - | 1,1 | 0,0 | 1", NoWords), ("begin flat | 3 - | 1,1,997 | 9 | 1", NoWords), ("begin flat | 3 - | - | 0,0,0 | 1", NoWords),
            ("begin right | 3 - | 1,1,1 | 0,0 | 1", NoGoes), ("begin loud | 3 - | 1,1,1 | 0,0,1 | 1", NoGoes), ("begin loud | 1 - | 1 | 1 | 1 | 1", None),
            ("do reckon 3", NoDeed), ("do hear 0 1", NoDeed), ("do put 0 1 1 1 - -", NoDeed), ("table 9 | - : - | - : - | - : - | - : -", NoTable),
        ):
            if error is None:
                self.assertEqual(desk.say(row), "ok")
                desk = desk_of(BEGIN, *STEPS)
            else:
                self.refuses(desk, row, error)
        self.refuses(desk, "told 3", NoSeat, seat=3)
        self.refuses(desk, "told " + "9" * 40, NoSeat, seat=10 ** 40 - 1)
        self.refuses(desk, "back 1", NoBack, many=1)
        self.refuses(desk, "back " + "9" * 40, NoBack, many=10 ** 40 - 1)
        for _ in range(2000):
            desk.say("do reckon 0")
        self.refuses(desk, "do reckon 0", TooLong, many=2001)
        self.refuses(desk, "do reckon 3", NoDeed)
        desk.say_all(("table 9" + " | - : 1 -> plus own 1 ; 1 -> plus own 2 ; 1 -> plus own 3 ; 1 -> plus own 4" * 3, "case some 1"))
        for row in ("verdict", "most"):
            self.refuses(desk, row, TooWide, most=20000)
        desk.say("case turn 1")
        self.assertEqual(desk.say("verdict"), "ranks")
        self.refuses(desk, "most", NoCase)


def logged(*rows):
    """The log of rows: each stands in it twice, as it is, what is no text as ""."""
    kept = [row if type(row) is str else "" for row in rows]
    return tuple((word, row) for row in kept for word in ("in", "out"))


class Logs(unittest.TestCase):
    def test_rows_in_and_out(self):
        desk = Desk()
        self.assertEqual((desk.say(BEGIN), desk.say("tells")), ("ok", "0,0,0"))
        self.assertEqual(desk.log(), (("in", BEGIN), ("out", BEGIN), ("in", "tells"), ("out", "tells")))
        for row in (None, 5, ["tells"], ("tells",)):
            self.assertRaises(NoLine, desk.say, row)
        self.assertEqual(desk.log()[4:], (("in", ""), ("out", "")) * 4)
        self.assertRaises(NoText, desk.say, "do x")
        self.assertEqual(desk.say("right"), "no")
        self.assertEqual(desk.log()[12:], (("in", "do x"), ("out", "do x"), ("in", "right"), ("out", "right")))
        self.assertEqual(len(desk), 8)

    def test_rows_of_all_words_and_refusals(self):
        desk = Desk()
        rows = [
            BEGIN, "do reckon 1", "back 1", "told 0", "waves", "tells", "sure", "alarms", "right", STEPS[0], STEPS[1], "verdict", "most",
            "", " ", "waves ", "do", "do reckon 3", "back 1", "told 3", "told 00", "begin flat | x", "table 2 | -", "case any 1", "case one mark 2", "nonsense",
            "case turn 1", "most", "two\nlines", b"tells", True, 0, {"tells": 1}, BEGIN, "tells",
        ]
        refused = 0
        for row in rows:
            try:
                desk.say(row)
            except (ComeError, NoSeat, NoBack):
                refused += 1
        self.assertEqual(refused, 19)
        self.assertEqual(desk.log(), logged(*rows))
        self.assertEqual(len(desk), len(rows))

    def test_many_rows_up_to_the_first_refused(self):
        desk = Desk()
        self.assertEqual(desk.say_all(()), ())
        self.assertEqual(desk.log(), ())
        self.assertEqual(desk.say_all((BEGIN, "do reckon 0", "waves")), ("ok", "ok", "0"))
        self.assertEqual(desk.log(), logged(BEGIN, "do reckon 0", "waves"))
        with self.assertRaises(NoText) as told:
            desk.say_all(("do reckon 1", "do reckon 12", "do reckon 2", None))
        self.assertEqual(told.exception.at, 1)
        self.assertEqual(desk.house().log(), (("reckon", 0), ("reckon", 1)))
        self.assertEqual(desk.log()[6:], logged("do reckon 1", "do reckon 12"))
        self.assertEqual(len(desk), 5)
        self.assertRaises(NoLine, desk.say_all, ("tells", None, "tells"))
        self.assertEqual(desk.log()[10:], logged("tells", ""))
        log = desk.log()
        for rows in ODD + (["tells"], "tells", {"tells": 1}):
            if type(rows) is not tuple:
                self.assertRaises(NoLine, desk.say_all, rows)
        self.assertEqual(desk.log(), log)
        self.assertEqual(len(desk), 7)

    def test_desks_go_their_own_ways(self):
        one, two = desk_of(BEGIN), Desk()
        self.assertIsNone(two.house())
        one.say("do reckon 0")
        two.say(BEGIN)
        self.assertEqual((len(one), len(two), len(one.house()), len(two.house())), (2, 1, 1, 0))
        self.assertEqual(read_wish("able", seats=2), ("able",))
        self.assertEqual(len(standings(ruled(*read_rules(COPY[6:])))), 4)
        self.assertIs(type(plans_text(PLANS)), str)
