"""Texts: what is written of numbers, webs, plans, deeds, rules and wishes, and what is read of it."""

from comeright.errors import NoDeed, NoNumber, NoWish
from comeright.kinds import is_number
from comeright.plans.plans import MOST_PLANS, MOST_ROUNDS, need_plan, need_plans
from comeright.plans.terms import MOST_TERMS, MOST_WITHIN, WORTHS
from comeright.tables.rules import MOST_RULES, need_hands
from comeright.tables.tables import LEAST_SIZE, MOST_HANDS, MOST_SIZE, are_looks
from comeright.tables.terms import TERMS_OF_TABLES, WITHIN_TABLES
from comeright.tables.wishes import is_wish_of, need_many
from comeright.webs.webs import MOST_SEATS, is_web, need_web
from comeright.words.deedforms import PARTS, deed_of, flat, is_deed_form, part_fits, part_of, word_of
from comeright.words.figures import NONE, number_of, numbers_of, numbers_word, parts_of
from comeright.words.reader import Reader


def term_words(term):
    """The words of what surely is a term, or a number in one."""
    if type(term) is int:
        return str(term)
    return " ".join([term[0]] + [term_words(part) for part in term[1:]])


def plan_words(plan):
    """The words of what surely is a plan."""
    first, nexts = plan
    return " ; ".join([term_words(term) for term in (first,) + nexts])


def hand_words(looks, rules):
    """The words of a seat's looks and rules."""
    told = " ; ".join([f"{term_words(guard)} -> {term_words(then)}" for guard, then in rules])
    return f"{numbers_word(looks)} : {told if len(rules) > 0 else NONE}"


def tie_of(word):
    """The pair of numbers that a word is; None of what is none."""
    told = parts_of(word, NONE, number_of)
    return told if told is not None and len(told) == 2 else None


def ties_of(word, many):
    """The ties of a web of so many seats that a word is; None of what is none."""
    told = parts_of(word, ",", tie_of)
    return told if is_web((many, told)) else None


def looks_of(word, seat):
    """The looks of a seat of some table that a word is; None of what is none."""
    told = numbers_of(word)
    return told if are_looks(MOST_HANDS, seat, told) else None


def next_plan(reader):
    """The plan of a reader's next words."""
    # Of each leaf None, or below what the number is that stands with it.
    of_first = {"word": None, "ties": None}
    of_next = {"own": None, "ties": None, "sum": None, "least": None, "most": None, "many": WORTHS}
    first, _ = reader.next_term(of_first, MOST_WITHIN, MOST_TERMS)
    nexts = []
    while len(nexts) < MOST_ROUNDS and reader.skips(";"):
        term, _ = reader.next_term(of_next, MOST_WITHIN, MOST_TERMS)
        nexts.append(term)
    return (first, tuple(nexts))


def next_rule(reader, leaves):
    """The rule of a reader's next words."""
    guard, _ = reader.next_term(leaves, WITHIN_TABLES, TERMS_OF_TABLES)
    reader.next_of(("->",))
    then, _ = reader.next_term(leaves, WITHIN_TABLES, TERMS_OF_TABLES)
    return (guard, then)


def next_hand(reader, seat):
    """The looks and rules of a seat, of a reader's next words."""
    looks = reader.takes(looks_of(reader.next_word(), seat))
    reader.next_of((":",))
    if reader.skips(NONE):
        return (looks, ())
    leaves = {"own": None, "ties": None, "size": None, "look": len(looks)}
    rules = [next_rule(reader, leaves)]
    while len(rules) < MOST_RULES and reader.skips(";"):
        rules.append(next_rule(reader, leaves))
    return (looks, tuple(rules))


def numbers_text(numbers):
    """A row of numbers as a text."""
    if type(numbers) is not tuple or [1 for number in numbers if not is_number(number)]:
        raise NoNumber(numbers)
    return numbers_word(numbers)


def web_text(web):
    """A web as a text."""
    need_web(web)
    many, ties = web
    told = ",".join([f"{low}-{high}" for low, high in ties])
    return f"{many} {told if len(ties) > 0 else NONE}"


def plan_text(plan):
    """A plan as a text."""
    need_plan(plan)
    return plan_words(plan)


def plans_text(plans):
    """Plans as a text."""
    need_plans(plans)
    return " | ".join([plan_words(plan) for plan in plans])


def deed_text(deed):
    """A deed as a text."""
    if not is_deed_form(deed):
        raise NoDeed("no deed of any scene")
    told = [word_of(kind, part) for kind, part in zip(PARTS[deed[0]], flat(deed))]
    return " ".join([deed[0]] + told)


def rules_text(size, seats):
    """The rules of a table as a text."""
    need_hands(size, seats)
    return " | ".join([str(size)] + [hand_words(looks, rules) for looks, rules in seats])


def wish_text(wish, *, seats):
    """A wish of a table of so many seats as a text."""
    need_many(seats)
    if not is_wish_of(wish, seats):
        raise NoWish("no wish of such a table")
    return term_words(wish)


def read_numbers(text):
    """The row of numbers that a text is."""
    reader = Reader(text)
    return reader.ended(reader.takes(numbers_of(reader.next_word())))


def read_web(text):
    """The web that a text is."""
    reader = Reader(text)
    many = reader.next_number(1, MOST_SEATS + 1)
    ties = reader.takes(ties_of(reader.next_word(), many))
    return reader.ended((many, ties))


def read_plan(text):
    """The plan that a text is."""
    reader = Reader(text)
    return reader.ended(next_plan(reader))


def read_plans(text):
    """The plans that a text is."""
    reader = Reader(text)
    plans = [next_plan(reader)]
    while len(plans) < MOST_PLANS and reader.skips("|"):
        plans.append(next_plan(reader))
    return reader.ended(tuple(plans))


def read_deed(text):
    """The deed that a text is: one that some scene has by its form."""
    reader = Reader(text)
    word = reader.next_of(list(PARTS))
    parts = []
    for kind in PARTS[word]:
        part = part_of(kind, reader.next_word())
        fits = part is not None and part_fits(kind, parts, part)
        parts.append(reader.takes(part if fits else None))
    return reader.ended(deed_of(word, parts))


def read_rules(text):
    """(size, seats) of the rules of a table that a text is."""
    reader = Reader(text)
    size = reader.next_number(LEAST_SIZE, MOST_SIZE + 1)
    reader.next_of(("|",))
    seats = [next_hand(reader, 0)]
    while len(seats) < MOST_HANDS and reader.skips("|"):
        seats.append(next_hand(reader, len(seats)))
    # Where a look is at a seat that isn't there yet, more have to come.
    if [1 for looks, _ in seats for other in looks if other >= len(seats)]:
        reader.refuse()
    return reader.ended((size, tuple(seats)))


def read_wish(text, *, seats):
    """The wish of a table of so many seats that a text is."""
    need_many(seats)
    reader = Reader(text)
    wish, _ = reader.next_term({"mark": seats, "able": None, "size": None}, WITHIN_TABLES, TERMS_OF_TABLES)
    return reader.ended(wish)
