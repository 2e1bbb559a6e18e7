"""Tables of plans: the levels of a seat as the figures of one mark, by a small base."""

from comeright.errors import NoBase, NoNumber, NoTable, NoWords
from comeright.kinds import is_below, is_row
from comeright.made.views import need_room, table_of
from comeright.plain.plain import are_words
from comeright.plans.plans import MOST_ROUNDS, need_plan
from comeright.plans.terms import worth_of
from comeright.tables.movers import need_movers
from comeright.tables.tables import is_size, power
from comeright.webs.webs import all_beside, need_web

LEAST_BASE = 2
MOST_BASE = 9


def is_base(thing):
    """Whether it is a base."""
    return type(thing) is int and LEAST_BASE <= thing <= MOST_BASE


def need_base(base):
    """Refuse what is no base."""
    if not is_base(base):
        raise NoBase("no base")


def need_small(web, words, plan, base):
    """Refuse what no small run is of, the first one that is wrong first."""
    need_web(web)
    if not are_words(web, words):
        raise NoWords("no words of this web")
    need_plan(plan)
    need_base(base)


def small_first(plan, base, word, near):
    """Level 0 by a word and the neighbours, small."""
    # A first looks at none of the heap: only how many are in it counts.
    return worth_of(plan[0], word, near) % base


def small_next(plan, base, at, own, heap):
    """Level at + 1 by the own level at and the neighbours', small."""
    return worth_of(plan[1][at], own, heap) % base


def small_levels(web, words, plan, base):
    """For each seat the row of its small levels, of what surely are a web, words, a plan and a base."""
    near = all_beside(web)
    level = [small_first(plan, base, word, near[seat]) for seat, word in enumerate(words)]
    told = [level]
    for at in range(len(plan[1])):
        level = [small_next(plan, base, at, level[seat], [level[u] for u in near[seat]]) for seat in range(web[0])]
        told.append(level)
    return tuple(zip(*told))


def figures(mark, base, rounds):
    """The row of a mark, the greatest figure ahead."""
    told = []
    for _ in range(rounds + 1):
        told.append(mark % base)
        mark = mark // base
    return tuple(told[::-1])


def number_of(row, base):
    """The mark of a row."""
    told = 0
    for figure in row:
        told = told * base + figure
    return told


def plan_marks(plan, base, word, rows):
    """The rising marks to which a seat may move by its row and its neighbours' rows: in each one level is made anew."""
    own, near = rows[0], rows[1:]
    told = []
    for at in range(len(own)):
        if at == 0:
            made = small_first(plan, base, word, near)
        else:
            made = small_next(plan, base, at - 1, own[at - 1], [row[at - 1] for row in near])
        if made != own[at]:
            told.append(number_of(own[:at] + (made,) + own[at + 1:], base))
    return sorted(told)


def small_run(web, words, plan, *, base):
    """For each seat the row of its levels in the small plain run."""
    need_small(web, words, plan, base)
    return small_levels(web, words, plan, base)


def plan_case(web, words, plan, *, base, movers="some"):
    """The case of a plan's table on a web: right is the small plain run alone."""
    need_small(web, words, plan, base)
    need_movers(movers)
    rounds = len(plan[1])
    size = power(base, rounds + 1)
    if not is_size(size):
        raise NoTable("too many marks")
    need_room(size, web[0])
    rows = [figures(mark, base, rounds) for mark in range(size)]

    def marks_of(seat, view):
        return plan_marks(plan, base, words[seat], [rows[at] for at in view])

    right = tuple([number_of(row, base) for row in small_levels(web, words, plan, base)])
    return (table_of(size, all_beside(web), marks_of), (right,), movers)


def mark_of(row, *, base):
    """The mark of a row of levels."""
    # What no base would make a row is refused ahead of what is no base.
    top = base if is_base(base) else MOST_BASE
    if not is_row(row, 1, MOST_ROUNDS + 1) or [1 for figure in row if not is_below(figure, top)]:
        raise NoNumber(row)
    need_base(base)
    return number_of(row, base)


def row_of(mark, *, base, rounds):
    """The row of levels of a mark."""
    well = is_below(rounds, MOST_ROUNDS + 1)
    # What no base and no rounds would make a mark is refused ahead of these.
    top = power(base if is_base(base) else MOST_BASE, (rounds if well else MOST_ROUNDS) + 1)
    if not is_below(mark, top):
        raise NoNumber(mark)
    need_base(base)
    if not well:
        raise NoNumber(rounds)
    return figures(mark, base, rounds)
