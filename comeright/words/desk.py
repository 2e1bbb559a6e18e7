"""A desk: it answers rows about a house, a table and a case of its own."""

from comeright.cases.longest import longest
from comeright.cases.verdicts import verdict
from comeright.errors import NoLine
from comeright.house.house import House
from comeright.scenes.scenes import flat_scene, loud_scene, right_scene, tells
from comeright.tables.movers import MOVERS
from comeright.tables.rules import ruled
from comeright.tables.wishes import wished
from comeright.words.figures import number_of, numbers_word
from comeright.words.texts import read_deed, read_numbers, read_plans, read_rules, read_web, read_wish

DONE = "ok"
KINDS = ("right", "flat", "loud")
# Behind its kind: a web, words, goes, plans.
BEGIN_PARTS = 5


def waves_told(house):
    """How many waves a house shows."""
    return str(house.waves())


def worths_told(house):
    """What all seats of a house tell."""
    return numbers_word(tells(house.scene()))


def sure_told(house):
    """The numbers of the rows of a house."""
    return numbers_word(house.sure()[0])


def alarms_told(house):
    """The seats of a house whose look doesn't agree."""
    return numbers_word(house.alarms())


def right_told(house):
    """Whether a house is right."""
    return "yes" if house.is_right() else "no"


def verdict_told(case):
    """The verdict of a case: ranks alone, or a break."""
    told = verdict(case)
    if told[0] == "ranks":
        return told[0]
    rows = told[1] if told[0] == "ring" else told[1:]
    return " ".join([told[0]] + [numbers_word(standing) for standing in rows])


def most_told(case):
    """The number of the paper of a case."""
    paper = longest(case)
    return "none" if paper is None else str(paper[0])


OF_HOUSE = {
    "waves": waves_told,
    "tells": worths_told,
    "sure": sure_told,
    "alarms": alarms_told,
    "right": right_told,
}
OF_CASE = {"verdict": verdict_told, "most": most_told}


def scene_begun(kind, plans, web, words, goes):
    """The scene of such a kind."""
    if kind == "right":
        return right_scene(plans, web, words, goes)
    if kind == "flat":
        return flat_scene(plans, web, words, goes)
    return loud_scene(plans, web, words, goes)


def house_begun(text):
    """The house of KIND | WEB | WORDS | GOES | PLANS."""
    parts = text.split(" | ", BEGIN_PARTS - 1)
    if len(parts) < BEGIN_PARTS or parts[0] not in KINDS:
        raise NoLine("no kind of scene, or not all its parts")
    web = read_web(parts[1])
    words = read_numbers(parts[2])
    goes = read_numbers(parts[3])
    plans = read_plans(parts[4])
    return House(scene_begun(parts[0], plans, web, words, goes))


def number_told(text):
    """The number that a text is."""
    told = number_of(text)
    if told is None:
        raise NoLine("no number")
    return told


class Desk:
    """A desk that answers rows, and keeps a log of them."""

    def __init__(self):
        self._house = None
        self._table = None
        self._case = None
        self._log = []

    def house(self):
        """Its own house, to be looked at alone; None ahead of one."""
        return self._house

    def case(self):
        """Its own case; None ahead of one."""
        return self._case

    def log(self):
        """The row of ("in", row), ("out", row) of each row begun: both with the row itself, "" for what is no text."""
        return tuple(self._log)

    def __len__(self):
        return len(self._log[::2])

    def say(self, row):
        """The answer to a row."""
        kept = row if type(row) is str else ""
        # Both are kept ahead of the answer: so a row that is refused is in the log, too.
        self._log.append(("in", kept))
        self._log.append(("out", kept))
        return self._answer(row)

    def say_all(self, rows):
        """The answers to many rows, up to the first that is refused."""
        if type(rows) is not tuple:
            raise NoLine("no row of rows")
        return tuple([self.say(row) for row in rows])

    def _answer(self, row):
        """The answer to a row by its word."""
        if type(row) is not str:
            raise NoLine("no text")
        word, blank, rest = row.partition(" ")
        if blank == "":
            return self._told(word)
        if word in ("do", "back", "told"):
            return self._of_house(word, rest)
        if word == "begin":
            self._house = house_begun(rest)
            return DONE
        if word == "table":
            size, seats = read_rules(rest)
            self._table = ruled(size, seats)
            return DONE
        if word == "case":
            return self._begin_case(rest)
        raise NoLine("no word of a desk")

    def _told(self, word):
        """What a word alone asks for."""
        if word in OF_HOUSE and self._house is not None:
            telling = OF_HOUSE[word]
            return telling(self._house)
        if word in OF_CASE and self._case is not None:
            telling = OF_CASE[word]
            return telling(self._case)
        raise NoLine("no word alone, or nothing to ask")

    def _of_house(self, word, rest):
        """What is done in the house, or told of a seat of it."""
        if self._house is None:
            raise NoLine("no house")
        if word == "do":
            self._house.do(read_deed(rest))
            return DONE
        number = number_told(rest)
        if word == "told":
            return str(self._house.told(number))
        self._house.back(many=number)
        return DONE

    def _begin_case(self, rest):
        """Have a case of the last table: how many standings are right."""
        movers, blank, wish = rest.partition(" ")
        if blank == "" or movers not in MOVERS or self._table is None:
            raise NoLine("no movers and a wish, or no table")
        right = wished(self._table, read_wish(wish, seats=len(self._table[1])))
        self._case = (self._table, right, movers)
        return str(len(right))
