"""[35], [36]: what is written, and what is read of it."""

import unittest

from comeright.errors import NoDeed, NoNumber, NoPlan, NoPlans, NoRules, NoText, NoWeb, NoWish
from comeright.words.texts import (
    deed_text, numbers_text, plan_text, plans_text, read_deed, read_plan, read_plans, read_rules, read_web, read_wish, rules_text,
    web_text, wish_text,
)
from tests import texts
from tests.samples import (
    LEAST, ODD, PLANS, WEBS, deep, rng_of, some_deed, some_plan, some_scene, some_web, spoiled,
)
from tests.test_rules import heavy, some_seats
from tests.test_wishes import heavy_wish, some_wish

STRIKE = ("strike", 1, ((0, 3), ((4, 4), (0, 0)), ((), ((1, 1), (2, 2))), ((), ())))
COPY = (((1,), ((("same", ("own",), ("look", 0)), ("minus", 1, ("own",))),)), ((0,), ()))


def read_wish_of(seats):
    return lambda text: read_wish(text, seats=seats)


READ = (
    (read_web, texts.whole_web, texts.more_of_web), (read_plan, texts.whole_plan, texts.more_of_terms),
    (read_plans, texts.whole_plans, texts.more_of_terms), (read_deed, texts.some_deed, texts.more_of_deed),
    (read_rules, texts.whole_rules, texts.more_of_rules), (read_wish_of(2), texts.whole_wish(2), texts.more_of_terms),
)


class Written(unittest.TestCase):
    def test_numbers(self):
        for numbers, text in (((), "-"), ((0,), "0"), ((3, 0, 10), "3,0,10"), ((10 ** 39, 7), "1" + "0" * 39 + ",7")):
            self.assertEqual(numbers_text(numbers), text)
        for thing in ODD + ((-1,), (1, True), [1, 2], (1, None), ("1",), 1, ((1,),)):
            if thing in ((), (0,), (0, 0), (0, 1, 2)) and texts.has_none(thing) is False and all(type(part) is int for part in thing):
                continue
            with self.assertRaises(NoNumber) as told:
                numbers_text(thing)
            self.assertIs(told.exception.number, thing)

    def test_webs(self):
        for web, text in (((4, ((0, 1), (1, 2))), "4 0-1,1-2"), ((1, ()), "1 -"), ((12, ((0, 11),)), "12 0-11"), ((12, ((9, 10), (10, 11))), "12 9-10,10-11")):
            self.assertEqual(web_text(web), text)
            self.assertEqual(read_web(text), web)

    def test_plans(self):
        plan = (("word",), (("low", ("own",), ("least",)),))
        self.assertEqual(plan_text(plan), "word ; low own least")
        self.assertEqual(plans_text((plan, (1, ()))), "word ; low own least | 1")
        self.assertEqual(plan_text((996, ())), "996")
        self.assertEqual(plan_text(LEAST), "word ; if ties low own least own ; if ties low own least own ; if ties low own least own")
        self.assertEqual(plan_text((("plus", ("word",), ("ties",)), (("many", 3), ("sum",)))), "plus word ties ; many 3 ; sum")
        self.assertEqual(read_plans("word ; low own least | 1"), (plan, (1, ())))

    def test_deeds(self):
        for deed, text in (
            (("reckon", 11), "reckon 11"), (("send", 0, 1), "send 0 1"), (("hear", 3, 2), "hear 3 2"), (("lose", 0, 1, 2), "lose 0 1 2"),
            (("double", 0, 1, 7), "double 0 1 7"), (("word", 3, 17), "word 3 17"), (("goes", 0, 2), "goes 0 2"), (("cut", 2, 11), "cut 2 11"),
            (("put", 0, 1, ((1,), (2,), (), ((3,), (4,)))), "put 0 1 1 2 - 3/4"),
            (("put", 0, 1, ((1, 2), (3, 4), ((5, 6),), ())), "put 0 1 1,2 3,4 5,6 -"), (STRIKE, "strike 1 0,3 4,4/0,0 -:1,1/2,2 -:-"),
            (("strike", 0, ((7, 8, 9), (), (), ())), "strike 0 7,8,9 . . ."),
            (("strike", 0, ((7,), ((1,),), ((),), (((2,), (3,)),))), "strike 0 7 1 - 2/3"),
        ):
            self.assertEqual(deed_text(deed), text)
            self.assertEqual(read_deed(text), deed)

    def test_rules_and_wishes(self):
        text = "2 | 1 : same own look 0 -> minus 1 own | 0 : -"
        self.assertEqual(rules_text(2, COPY), text)
        self.assertEqual(read_rules(text), (2, COPY))
        self.assertEqual(rules_text(9, (((), ()),)), "9 | - : -")
        self.assertEqual(rules_text(3, (((), ((1, 2), (("own",), ("if", ("ties",), ("size",), 0)))),)), "3 | - : 1 -> 2 ; own -> if ties size 0")
        # More seats than there could be standings of.
        self.assertEqual(rules_text(9, (((), ()),) * 6), "9" + " | - : -" * 6)
        self.assertEqual(wish_text(("same", ("able",), 0), seats=1), "same able 0")
        self.assertEqual(wish_text(("plus", ("mark", 2), ("size",)), seats=3), "plus mark 2 size")
        self.assertEqual(read_wish("plus mark 2 size", seats=3), ("plus", ("mark", 2), ("size",)))


class ThereAndBack(unittest.TestCase):
    def test_some_of_each(self):
        rng = rng_of(35)
        for _ in range(200):
            web = some_web(rng, 12)
            self.assertEqual(read_web(web_text(web)), web)
            plans = tuple(some_plan(rng) for _ in range(rng.randint(1, 3)))
            self.assertEqual(read_plans(plans_text(plans)), plans)
            self.assertEqual(read_plan(plan_text(plans[0])), plans[0])
            self.assertEqual(texts.whole_plans(plans_text(plans)), plans)
            size, seats = some_seats(rng)
            if len(rules_text(size, seats)) <= 4000:
                self.assertEqual(read_rules(rules_text(size, seats)), (size, seats))
            self.assertEqual(texts.whole_rules(rules_text(size, seats)), (size, seats))
            many = rng.randint(1, 6)
            wish = some_wish(rng, many, 4)
            self.assertEqual(read_wish(wish_text(wish, seats=many), seats=many), wish)
            self.assertEqual(texts.whole_wish(many)(wish_text(wish, seats=many)), wish)
        for web in WEBS:
            self.assertEqual(read_web(web_text(web)), web)

    def test_deeds(self):
        rng = rng_of(351)
        words = set()
        for _ in range(150):
            scene = some_scene(rng, 8)
            for _ in range(6):
                deed = some_deed(rng, scene, 60)
                text = deed_text(deed)
                if len(text) <= 4000:
                    self.assertEqual(read_deed(text), deed)
                self.assertEqual(texts.whole_deed(text), deed)
                words.add(deed[0])
        self.assertEqual(len(words), 10)

    def test_at_the_bounds(self):
        plan = (deep(lambda told: ("if", 1, 2, told), 5), (heavy_next(39),) * 6)
        self.assertEqual(read_plan(plan_text(plan)), plan)
        rules = (((1, 2, 3, 4, 5), ((deep(lambda told: ("plus", told, 1), 16), ("if", heavy(195), ("look", 4), 2)),)),) + (((), ()),) * 5
        self.assertEqual(read_rules(rules_text(2, rules)), (2, rules))
        wish = ("if", heavy_wish(195), ("mark", 5), ("plus", 996, 0))
        self.assertEqual(read_wish(wish_text(wish, seats=6), seats=6), wish)


def heavy_next(many):
    def own(term):
        return ("own",) if len(term) == 1 else term[:1] + tuple(own(part) for part in term[1:])

    return own(heavy(many))


def changed_words(rng, words):
    """A row of words with a word more, fewer, another one, or parts of it exchanged."""
    at = rng.randrange(len(words))
    # Words of all kinds of texts, and what is nearly a number.
    other = rng.choice(words + (
        "0 1 2 3 5 6 7 8 9 10 11 12 13 996 997 00 01 -1 +1 1.0 1_0 - . ; | : -> / , if plus low word own ties sum least most many size look "
        "mark able 0-1 1-0 0-1,1-2 0,0 0,0/1,1 -:- 0,0,0 0, ,0 0//0 reckon strike put send cut If PLUS x 0-0 0-1,0-1 996,996 997,0"
    ).split() + ["", "\n", "0\n", "~"])
    kind = rng.randrange(5)
    if kind == 0:
        return words[:at] + [other] + words[at:]
    if kind == 1:
        return words[:at] + words[at + 1:]
    if kind == 2:
        return words[:at] + words[rng.randrange(len(words)):]
    if kind == 3:
        return words[:at]
    return words[:at] + [other] + words[at + 1:]


class Read(unittest.TestCase):
    def read_as_told(self, read, whole, more, text):
        want = whole(text)
        if want is not None:
            self.assertEqual(read(text), want, text)
            return True
        with self.assertRaises(NoText, msg=text) as told:
            read(text)
        self.assertIs(type(told.exception), NoText)
        self.assertEqual(told.exception.at, texts.fault(text, whole, more), text)
        return False

    def some_texts(self, rng):
        size, seats = some_seats(rng, 64)
        cut = [(looks, rules[:2]) for looks, rules in seats]
        return (
            web_text(some_web(rng, 6)), plan_text(some_plan(rng)), plans_text(tuple(some_plan(rng) for _ in range(rng.randint(1, 3)))),
            deed_text(some_deed(rng, some_scene(rng, 4), 60)), rules_text(size, tuple(cut)), wish_text(some_wish(rng, 2, 3), seats=2),
        )

    def test_near_texts(self):
        rng = rng_of(36)
        seen = {at: [] for at in range(6)}
        for _ in range(60):
            for at, text in enumerate(self.some_texts(rng)):
                if len(text) > 500:
                    continue
                read, whole, more = READ[at]
                self.assertTrue(self.read_as_told(read, whole, more, text))
                for _ in range(6):
                    words = changed_words(rng, text.split(" "))
                    if words and rng.random() < 0.3:
                        words = changed_words(rng, words)
                    seen[at].append(self.read_as_told(read, whole, more, " ".join(words)))
        for told in seen.values():
            self.assertGreater(min(told.count(True), told.count(False)), 3)

    def test_each_first_word(self):
        for read, whole, more in READ:
            for text in ("", " ", "  ", "0", "1", "12", "13", "x", "-", "word", "own", "able", "mark 1", "mark 2", "many 3", "reckon", "reckon 0",
                         "2 |", "1 |", "9 | - : -", "10 | - : -", "1 -", "13 -", "0 -", "word ;", "| 1", "; 1", "1 | 1 | 1 | 1", "1 |", " 1", "1 ",
                         "1  1", "plus", "if 1", "low 1 2 3", "\n", "1\n", "996", "997", "0996", "1 ; 1 ; 1 ; 1 ; 1 ; 1 ; 1", "1 ; 1 ; 1 ; 1 ; 1 ; 1 ; 1 ; 1"):
                self.read_as_told(read, whole, more, text)

    def fails(self, read, text, at):
        with self.assertRaises(NoText, msg=text) as told:
            read(text)
        self.assertEqual(told.exception.at, at, text)

    def test_no_text_and_too_long(self):
        for read, _, _ in READ:
            for thing in ODD + (("1 -",), ["1 -"], 10 ** 39):
                if type(thing) is not str:
                    self.fails(read, thing, 0)
            self.fails(read, "0" * 4001, 0)
        for signs in (3999, 4000, 4001, 4002):
            text = of_signs(signs)
            self.assertEqual(len(text), signs)
            self.assertIsNotNone(texts.whole_rules(text))
            if signs <= 4000:
                self.assertEqual(rules_text(*read_rules(text)), text)
            else:
                self.fails(read_rules, text, 0)

    def test_webs_at_the_bounds(self):
        for text, at in (
            ("", 0), ("12", 1), ("13", 0), ("0 -", 0), ("01 -", 0), ("1 0-1", 1), ("2 0-1", None), ("2 1-0", 1), ("2 0-2", 1), ("3 0-1,0-1", 1),
            ("3 0-2,0-1", 1), ("3 0-1,1-2", None), ("3 0-1,", 1), ("3 ,", 1), ("3 0-1 1-2", 2), ("3 0-1 ", 2), (" 3 0-1", 0), ("3  0-1", 1),
            ("3 0-01", 1), ("3 0-1-2", 1), ("3 0", 1), ("3 --", 1), ("3 -", None), ("3 - -", 2), ("3\n-", 0), ("three -", 0), ("3 0-1\n", 1),
        ):
            if at is None:
                self.assertEqual(web_text(read_web(text)), text)
            else:
                self.fails(read_web, text, at)

    def test_terms_at_the_bounds(self):
        self.fails(read_plan, "plus " * 6 + "1 " * 6 + "1", 5)
        self.assertEqual(plan_text(read_plan("plus " * 5 + "1 " * 5 + "1")), "plus " * 5 + "1 " * 5 + "1")
        self.fails(read_plan, "plus " * 5 + "1 " * 5, 10)
        self.fails(read_plan, ("plus " * 5 + "1 " * 5).strip(), 10)
        self.fails(read_plan, "own", 0)
        self.fails(read_plan, "word ; word", 2)
        self.fails(read_plan, "word ; many", 3)
        self.fails(read_plan, "word ; many own", 3)
        self.fails(read_plan, "word ; many 997", 3)
        self.fails(read_plan, "word ; 1 | 1", 3)
        self.fails(read_plan, "1 1", 1)
        self.fails(read_plans, "1 | 1 | 1 | 1", 5)
        self.fails(read_plans, "1 | 1 | 1 |", 5)
        self.fails(read_plans, "1 | 1 |", 4)
        self.fails(read_plan, "1 " + "; 1 " * 7, 13)
        # Forty terms: an if has three parts, and each of them is one at least.
        full = "if " + "plus plus plus plus 1 1 plus 1 1 plus plus 1 1 plus 1 1 plus plus plus 1 1 plus 1 1 plus plus 1 1 plus 1 1 "
        self.assertEqual(len(full.split()), 32)
        self.assertEqual(read_plan(full + "plus plus 1 1 1 plus 1 1"), read_plan(full + "plus plus 1 1 1 plus 1 1"))
        self.fails(read_plan, full + "plus plus 1 1 plus 1 1 plus 1 1", 39)
        self.fails(read_plan, full + "plus plus 1 1 1 plus plus 1 1 1", 38)
        self.fails(read_plan, full + "plus plus 1 1 1 if 1 1 1", 37)

    def test_rules_at_the_bounds(self):
        for text, at in (
            ("1", 0), ("10", 0), ("2", 1), ("2 |", 2), ("2 | 0", 2), ("2 | 6", 2), ("2 | 5", 3), ("2 | 1 : -", 5), ("2 | 1 : - | - : -", None),
            ("2 | 2 : - | - : -", 9), ("2 | 5 : -" + " | - : -" * 4, 21), ("2 | 5 : -" + " | - : -" * 5, None), ("2" + " | - : -" * 7, 25),
            ("2 | 1,1", 2), ("2 | 1,2,3,4,5 : -", 5), ("2 | 5,1,3 : look 2", 6), ("2 | 5,1,3 : look 3", 5), ("2 | - : look 0 -> 1", 4),
            ("2 | - : mark 0 -> 1", 4), ("2 | - : 1 -> 1 ;", 8), ("2 | - : 1 -> 1 ; -", 8), ("2 | - : - ;", 5), ("2 | - : 1 ->", 6),
            ("2 | - : 1 1", 5), ("2 | - : 1 -> 1 -> 1", 7), ("2 | - : 1 -> 1 1", 7), ("2 | - :", 4), ("2 | - ;", 3), ("2 | - : -> 1", 4),
            ("2 | - : " + "1 -> 1 ; " * 6 + "1 -> 1", 27), ("2 | - : " + "1 -> 1 ; " * 5 + "1 -> 1", None), ("2 | - : plus " + "plus " * 16 + "1", 20),
            ("2 | - : " + "plus " * 16 + "1", 21), ("2 - : -", 1), ("2 | : -", 2), ("2 |  - : -", 2), ("2 | - : - ", 5), ("2 | - : - |", 6),
        ):
            if at is None:
                self.assertEqual(rules_text(*read_rules(text)), text)
            else:
                self.fails(read_rules, text, at)

    def test_deeds_at_the_bounds(self):
        rows = "/".join(["0"] * 8)
        for text, at in (
            ("reckon", 1), ("reckon 12", 1), ("reckon 11 0", 2), ("Reckon 1", 0), ("send 11 11", 2), ("send 11", 2), ("lose 0 1 8", 3),
            ("lose 0 1 7", None), ("double 0 1 7", None), ("double 0 1 8", 3), ("word 0 996", None), ("word 0 997", 2), ("goes 0 3", 2),
            ("goes 0 2", None), ("put 11", 1), ("put 10 11", 3), ("put 10 10", 2), ("cut 11", 1), ("cut 10 11", None), ("cut 1 0", 2), ("cut 0", 2),
            ("put 0 1 -", 3), ("put 0 1 0 0,0", 4), ("put 0 1 0 0 0,0", 5), ("put 0 1 0 0 - -", None), ("put 0 1 0 0 " + rows + " -", None),
            ("put 0 1 0 0 " + rows + "/0 -", 5), ("put 0 1 0,0,0,0,0,0,0,0", 3), ("put 0 1 0,0,0,0,0,0,0", 4), ("put 0 1 997", 3),
            ("strike 0 0 .", 4), ("strike 0 0 -", 3), ("strike 0 0 0 .", 4), ("strike 0 0 . -", 4), ("strike 0 0 . . .", None),
            ("strike 0 0 " + "/".join(["0"] * 11), 4), ("strike 0 0 " + "/".join(["0"] * 12), 3), ("strike 0 0 0/0 -", 4), ("strike 0 0 0/0 -:- -", 5),
            ("strike 0 0 0/0 -:- -:-:-", 5), ("strike 0 0 0/0 -:- -:" + rows, None), ("strike 0 0 0/0 -:- -:" + rows + "/0", 5), ("strike 0 0 0,0", 3),
            ("strike 0 0 . . . .", 6), ("strike 12", 1), ("reckon 1 ", 2), ("reckon  1", 1), (" reckon 1", 0), ("reckon 01", 1), ("reckon 1\n", 1),
        ):
            if at is None:
                self.assertEqual(deed_text(read_deed(text)), text)
            else:
                self.fails(read_deed, text, at)


def of_signs(many):
    """A text of rules of so many signs."""
    def words(term):
        return " ".join([term[0]] + [words(part) for part in term[1:]])

    told = "2 | - : " + " ; ".join([f"{words(heavy(199))} -> {words(heavy(199))}"] * 2)
    last = words(heavy(99))
    while len(told) + len(" ; ") + len(last) + len(" -> 1") > many:
        last = last.replace("own", "1", 1) if "own" in last else words(heavy(97))
    return f"{told} ; {last} -> {'100'[:1 + many - len(told) - len(last) - 8]}"


class Refused(unittest.TestCase):
    def test_what_is_written(self):
        for thing in ODD:
            self.assertRaises(NoWeb, web_text, thing)
            self.assertRaises(NoPlan, plan_text, thing)
            self.assertRaises(NoPlans, plans_text, thing)
            self.assertRaises(NoDeed, deed_text, thing)
            self.assertRaises(NoRules, rules_text, thing, COPY)
            self.assertRaises(NoRules, rules_text, 2, thing)
            self.assertRaises(NoWish, wish_text, thing, seats=3)
        for thing in spoiled((2, ((0, 1),))):
            self.assertRaises(NoWeb, web_text, thing)
        for thing in spoiled(PLANS[1:]):
            self.assertRaises(NoPlans, plans_text, thing)
        for size in (1, 10, True, None, "2"):
            self.assertRaises(NoRules, rules_text, size, COPY)
        for thing in spoiled(COPY):
            self.assertRaises(NoRules, rules_text, 2, thing)
        self.assertRaises(NoWish, wish_text, ("mark", 2), seats=2)

    def test_no_deed_of_any_scene(self):
        for deed in (STRIKE, ("put", 0, 1, ((1,), (2,), (), ((3,), (4,)))), ("lose", 0, 1, 2), ("word", 1, 5), ("goes", 1, 2), ("cut", 0, 1)):
            self.assertIs(type(deed_text(deed)), str)
            for thing in spoiled(deed):
                self.assertRaises(NoDeed, deed_text, thing)
        for deed in (
            ("reckon", 12), ("send", 1, 1), ("hear", 0, 12), ("lose", 0, 1, 8), ("word", 0, 997), ("goes", 0, 3), ("cut", 1, 1), ("cut", 2, 1),
            ("put", 1, 0, ((1,), (2,), (), ())), ("put", 0, 1, ((1,), (2, 2), (), ())), ("put", 0, 1, ((), (), (), ())),
            ("put", 0, 1, ((1,), (2,), ((1,),) * 9, ())), ("put", 0, 1, ((1,) * 8, (2,) * 8, (), ())), ("strike", 0, ((1,), ((1,),), (), ())),
            ("strike", 0, ((1,), ((1,),) * 12, ((),) * 12, ((),) * 12)), ("strike", 0, ((1,), ((1, 1),), ((),), ((),))), ("strike", 12, ((1,), (), (), ())),
            ("put", 0, 1, 2, 3), ("put", 0, 1, ((1,), (2,), ())), ("strike", 0, ((1,), (), ())), ("strike", 0), ("put", 0, 1),
        ):
            self.assertRaises(NoDeed, deed_text, deed)
        for deed in (
            ("strike", 11, ((1,) * 7, ((2,) * 7,) * 11, (((3,) * 7,) * 8,) * 11, ((),) * 11)), ("put", 10, 11, ((1,) * 7, (2,) * 7, ((3,) * 7,) * 8, ())),
            ("double", 0, 1, 7),
        ):
            self.assertIs(type(deed_text(deed)), str)

    def test_seats_ahead_of_all_else(self):
        for seats in (0, 7, -1, True, None, "2", (), 10 ** 39):
            for ask in (lambda: wish_text(None, seats=seats), lambda: wish_text(("able",), seats=seats), lambda: read_wish(None, seats=seats),
                        lambda: read_wish("able", seats=seats)):
                with self.assertRaises(NoNumber) as told:
                    ask()
                self.assertIs(told.exception.number, seats)
