"""What whole texts are, told anew by taking them apart, and where a text that is none goes wrong."""

import re

from comeright.plans.plans import is_plan, is_plans
from comeright.scenes.deeds import is_deed
from comeright.scenes.scenes import flat_scene
from comeright.tables.rules import is_rules
from comeright.tables.wishes import is_wish
from comeright.webs.webs import is_web
from tests.samples import FULL

NUMBER = re.compile("0|[1-9][0-9]*")
TAKES = {"many": 1, "look": 1, "mark": 1, "if": 3}
TAKES.update({op: 2 for op in "plus minus times over rest less same low high".split()})
TAKES.update({leaf: 0 for leaf in "word own ties sum least most size able".split()})


def number(word):
    return int(word) if NUMBER.fullmatch(word) else None


def numbers(word):
    if word == "-":
        return ()
    told = tuple(number(part) for part in word.split(","))
    return None if None in told else told


def rows(word):
    if word == "-":
        return ()
    told = tuple(numbers(part) for part in word.split("/"))
    return None if None in told else told


def term(words):
    """From the last word on: each head takes what stands behind it."""
    left = []
    for word in reversed(words):
        if number(word) is not None:
            left.append(number(word))
        elif word in TAKES and TAKES[word] <= len(left):
            left.append((word,) + tuple(left.pop() for _ in range(TAKES[word])))
        else:
            return None
    return left[0] if len(left) == 1 else None


def whole_web(text):
    parts = text.split(" ")
    if len(parts) != 2 or number(parts[0]) is None:
        return None
    ties = []
    for tie in parts[1].split(",") if parts[1] != "-" else ():
        if not re.fullmatch("(0|[1-9][0-9]*)-(0|[1-9][0-9]*)", tie):
            return None
        ties.append(tuple(int(seat) for seat in tie.split("-")))
    web = (int(parts[0]), tuple(ties))
    return web if is_web(web) else None


def plan(text):
    terms = [term(part.split(" ")) for part in text.split(" ; ")]
    return (terms[0], tuple(terms[1:]))


def whole_plan(text):
    return plan(text) if is_plan(plan(text)) else None


def whole_plans(text):
    plans = tuple(plan(part) for part in text.split(" | "))
    return plans if is_plans(plans) else None


def whole_wish(seats):
    def whole(text):
        wish = term(text.split(" "))
        return wish if is_wish(wish, seats=seats) else None

    return whole


def whole_rules(text):
    parts = text.split(" | ")
    seats = []
    for at, part in enumerate(parts[1:]):
        halves = part.split(" : ")
        if len(halves) != 2 or numbers(halves[0]) is None:
            return None
        looks = numbers(halves[0])
        if len(set(looks)) < len(looks) or at in looks or any(look > len(parts) - 2 for look in looks):
            return None
        rules = []
        for rule in halves[1].split(" ; ") if halves[1] != "-" else ():
            if rule.count(" -> ") != 1:
                return None
            guard, then = rule.split(" -> ")
            rules.append((term(guard.split(" ")), term(then.split(" "))))
        if len(looks) > 5 or not is_rules(tuple(rules), looks=len(looks)):
            return None
        seats.append((looks, tuple(rules)))
    size = number(parts[0])
    return (size, tuple(seats)) if size in range(2, 10) and 1 <= len(seats) <= 6 else None


def wide_plans(wide):
    return ((0, (0,) * (wide - 1)),) * 3


def has(deed):
    """Whether some scene has a deed: one that is made for it."""
    word = deed[0]
    wide = 1
    web = FULL
    if word == "put":
        wide, web = len(deed[3][0]), (12, ())
    if word == "strike":
        wide, near = len(deed[2][0]), [seat for seat in range(12) if seat != deed[1]][:len(deed[2][1])]
        web = (12, tuple(sorted(tuple(sorted((deed[1], seat))) for seat in near))) if deed[1] in range(12) else web
    if not 1 <= wide <= 7:
        return False
    scene = flat_scene(wide_plans(wide), web, (0,) * 12, (0,) * 12)
    many = 8 if word in ("hear", "lose") else 7
    if word == "double" and deed[3] == 7:
        # By its form alone: no road has so many letters, and room for one more.
        deed = deed[:3] + (0,)
    if word in ("hear", "lose", "double"):
        scene = scene[:6] + (tuple((s, u, ((0,) * wide,) * many) for s, u, _ in scene[6]),)
    return is_deed(scene, deed)


def deed(text):
    """The deed of a text, whatever numbers are in it."""
    words = text.split(" ")
    word, parts = words[0], words[1:]
    if word == "put" and len(parts) == 6:
        brought = (numbers(parts[2]), numbers(parts[3]), rows(parts[4]), rows(parts[5]))
        return (word, number(parts[0]), number(parts[1]), brought)
    if word == "strike" and len(parts) == 5:
        copies = () if parts[2] == "." else rows(parts[2]) or None
        roads = [() if part == "." else tuple(rows(each) for each in part.split(":")) for part in parts[3:]]
        return (word, number(parts[0]), (numbers(parts[1]), copies) + tuple(roads))
    if word in ("put", "strike"):
        return None
    return (word,) + tuple(number(part) for part in parts)


def has_none(thing):
    return thing is None or isinstance(thing, tuple) and any(has_none(part) for part in thing)


def whole_deed(text):
    told = deed(text)
    if has_none(told) or told[0] == "strike" and len(told[2][1]) > 11:
        return None
    return told if told[0] in ("put", "strike") or len(told) > 1 else None


def some_deed(text):
    """The deed of a text, that some scene has."""
    told = whole_deed(text)
    try:
        return told if told is not None and has(told) else None
    except IndexError:
        return None


def more_of_terms(words):
    for many in range(40):
        yield ["0"] * many


def more_of_web(words):
    yield []
    yield ["-"]


def more_of_rules(words):
    tail = ["|", "-", ":", "-"] * (6 - words.count("|"))
    for start in ([], ["-"], [":", "-"], ["-", ":", "-"]):
        yield start + tail
        yield start
    for many in range(40):
        yield ["0"] * many + tail
        yield ["0"] * many + ["->", "0"] + tail


PARTS = {
    "reckon": "s", "send": "su", "hear": "su", "lose": "sun", "double": "sun", "word": "sn", "goes": "sn", "put": "suwwll", "cut": "su",
    "strike": "swcrr",
}
WIDE = [",".join(["0"] * many) for many in range(1, 8)]
CHOICES = {"s": ["0"], "u": ["11", "0"], "n": ["0"], "w": WIDE, "l": ["-"], "c": ["."],
           "r": ["."] + [":".join(["-"] * many) for many in range(1, 12)]}


def more_of_deed(words):
    kinds = PARTS.get(words[0], "") if words else ""
    told = [[]]
    for kind in kinds[len(words) - 1:]:
        told = [ahead + [choice] for ahead in told for choice in CHOICES[kind]]
    return told


def fault(text, whole, more):
    """The number of the first word with which no such text begins; by halving, as what begins one does so with fewer words."""
    words = text.split(" ")
    low, high = 0, len(words)
    while low < high:
        half = (low + high) // 2
        begun = words[:half + 1]
        if any(whole(" ".join(begun + ends)) is not None for ends in more(begun)):
            low = half + 1
        else:
            high = half
    return low
