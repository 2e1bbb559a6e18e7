"""Rules: terms by which seats move, and the tables that they make."""

from comeright.errors import NoNumber, NoRules, NoTable
from comeright.kinds import is_below, is_row
from comeright.tables.tables import MOST_HANDS, MOST_LOOKS, MOST_STANDINGS, all_rows, are_looks, is_size, power
from comeright.tables.terms import come_to, is_term

MOST_RULES = 6


def are_rules(thing, looks):
    """Whether it is a row of rules of a seat with so many looks."""
    if not is_row(thing, 0, MOST_RULES):
        return False
    words = {"own": None, "ties": None, "size": None, "look": looks}
    for rule in thing:
        if not is_row(rule, 2, 2) or not is_term(rule[0], words) or not is_term(rule[1], words):
            return False
    return True


def are_hands(thing):
    """Whether it is a row of (looks, rules), one for each seat of a table."""
    if not is_row(thing, 1, MOST_HANDS):
        return False
    for seat, hand in enumerate(thing):
        if not is_row(hand, 2, 2) or not are_looks(len(thing), seat, hand[0]) or not are_rules(hand[1], len(hand[0])):
            return False
    return True


def need_hands(size, seats):
    """Refuse what is no size, then what are no looks and rules of seats."""
    if not is_size(size) or not are_hands(seats):
        raise NoRules("no size, or no looks and rules of seats")


def leaves_of(size, columns):
    """What each leaf of a seat's terms is in each view; columns has the views' marks, its own ahead."""
    many = len(columns[0])
    told = {("own",): columns[0], ("ties",): [len(columns) - 1] * many, ("size",): [size] * many}
    for at in range(len(columns) - 1):
        told[("look", at)] = columns[at + 1]
    return told


def moves_by(size, looks, rules):
    """For each view, as they rise, the rising marks to which rules let a seat move."""
    views = all_rows(size, 1 + len(looks))
    columns = list(zip(*views))
    leaves = leaves_of(size, columns)
    own = columns[0]
    told = [[] for _ in own]
    for guard, then in rules:
        goes = come_to(guard, leaves, len(own))
        marks = come_to(then, leaves, len(own))
        for at, mark in enumerate(marks):
            if goes[at] != 0 and mark % size != own[at]:
                told[at].append(mark % size)
    return tuple([tuple(sorted(set(row))) for row in told])


def is_rules(thing, *, looks):
    """Whether it is a row of rules of a seat with so many looks."""
    if not is_below(looks, MOST_LOOKS + 1):
        raise NoNumber(looks)
    return are_rules(thing, looks)


def ruled(size, seats):
    """The table in which each seat moves by its rules."""
    need_hands(size, seats)
    if power(size, len(seats)) > MOST_STANDINGS:
        raise NoTable("too many standings")
    return (size, tuple([(looks, moves_by(size, looks, rules)) for looks, rules in seats]))
