"""Wishes: terms by which standings are chosen."""

from comeright.errors import NoNumber, NoWish
from comeright.tables.tables import MOST_HANDS, all_standings, need_table, views_at
from comeright.tables.terms import come_to, has_leaf, is_term

ABLE = ("able",)


def need_many(seats):
    """Refuse what is no number of seats of a table."""
    if type(seats) is not int or not 1 <= seats <= MOST_HANDS:
        raise NoNumber(seats)


def is_wish_of(thing, seats):
    """Whether it is a wish of a table of so many seats."""
    return is_term(thing, {"mark": seats, "able": None, "size": None})


def many_able(table, columns):
    """How many seats are able at each of many standings, of which columns has the marks of each seat."""
    told = [0] * len(columns[0])
    for seat, (_, rows) in enumerate(table[1]):
        able = [0 if marks == () else 1 for marks in rows]
        told = [many + able[at] for many, at in zip(told, views_at(table, seat, columns))]
    return told


def wished_in(table, wish):
    """The rising list of standings at which a wish isn't 0, of what surely are a table and a wish of it."""
    told = all_standings(table)
    columns = list(zip(*told))
    leaves = {("size",): [table[0]] * len(told)}
    for seat, column in enumerate(columns):
        leaves[("mark", seat)] = column
    if has_leaf(wish, ABLE):
        leaves[ABLE] = many_able(table, columns)
    return [standing for standing, worth in zip(told, come_to(wish, leaves, len(told))) if worth != 0]


def is_wish(thing, *, seats):
    """Whether it is a wish of a table of so many seats."""
    need_many(seats)
    return is_wish_of(thing, seats)


def wished(table, wish):
    """The rising row of standings at which a wish isn't 0."""
    need_table(table)
    if not is_wish_of(wish, len(table[1])):
        raise NoWish("no wish of this table")
    return tuple(wished_in(table, wish))
