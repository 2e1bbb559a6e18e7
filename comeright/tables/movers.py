"""Movers: one, some or all of the able seats move at once, or one in its turn."""

from comeright.errors import NoMovers
from comeright.tables.tables import able_at, moves_at, need_standing, need_table, stands_in

MOVERS = ("one", "some", "all", "turn")


def need_movers(movers):
    """Refuse what are no movers."""
    if movers not in MOVERS:
        raise NoMovers("no movers")


def choices(table, standing, movers):
    """For each seat the rising marks that it may have behind a step: its own among them where it need not move."""
    told = []
    for seat, mark in enumerate(standing):
        may = moves_at(table, seat, standing)
        if may == () or movers != "all":
            may = sorted(may + (mark,))
        told.append(may)
    return told


def rows_of(marks):
    """The rising list of rows with one of each of these marks."""
    told = [()]
    for row in marks:
        told = [ahead + (mark,) for ahead in told for mark in row]
    return told


def at_once(marks, standing):
    """The rising standings with one of each seat's marks, but the standing itself."""
    # Two halves make fewer rows on the way than seat by seat.
    half = len(marks) // 2
    later = rows_of(marks[half:])
    told = [ahead + behind for ahead in rows_of(marks[:half]) for behind in later]
    if standing in told:
        told.remove(standing)
    return told


def one_by_one(table, standing):
    """The rising standings in which one seat has one of its moves."""
    told = []
    for seat in range(len(standing)):
        for mark in moves_at(table, seat, standing):
            told.append(standing[:seat] + (mark,) + standing[seat + 1:])
    return sorted(told)


def nexts_of(table, standing, movers):
    """The rising list of nexts of a standing of what surely is a table, by what surely are movers."""
    if movers in ("one", "turn"):
        return one_by_one(table, standing)
    return at_once(choices(table, standing, movers), standing)


def is_step(table, movers, standing, later):
    """Whether a standing is a next of another one."""
    moved = [seat for seat in range(len(standing)) if standing[seat] != later[seat]]
    for seat in moved:
        if later[seat] not in moves_at(table, seat, standing):
            return False
    if movers == "some":
        return len(moved) > 0
    if movers == "all":
        return len(moved) > 0 and moved == able_at(table, standing)
    return len(moved) == 1


def nexts(table, standing, movers):
    """The rising row of nexts of a standing."""
    need_table(table)
    need_standing(table, standing)
    need_movers(movers)
    return tuple(nexts_of(table, standing, movers))


def is_walk(table, movers, thing):
    """Whether it is a row of standings, each but the first a next of the one ahead."""
    need_table(table)
    need_movers(movers)
    if type(thing) is not tuple or len(thing) == 0:
        return False
    for standing in thing:
        if not stands_in(table, standing):
            return False
    for standing, later in zip(thing, thing[1:]):
        if not is_step(table, movers, standing, later):
            return False
    return True
