"""Plain runs: all seats go round by round at once."""

from comeright.errors import NoGoes, NoWords
from comeright.kinds import is_below, is_row
from comeright.plans.plans import need_plans, wide
from comeright.plans.terms import is_worth, worth_of
from comeright.webs.webs import beside, need_web


def are_words(web, thing):
    """Whether it is a row of worths, one for each seat of what surely is a web."""
    return is_row(thing, web[0], web[0]) and all([is_worth(word) for word in thing])


def are_goes(plans, web, thing):
    """Whether it is a row of numbers of plans, one for each seat of what surely is a web."""
    return is_row(thing, web[0], web[0]) and all([is_below(number, len(plans)) for number in thing])


def need_goes(plans, web, goes):
    """Refuse what are no goes of plans and a web."""
    if not are_goes(plans, web, goes):
        raise NoGoes("no goes of these plans and this web")


def need_run_of(plans, web, words, goes):
    """Refuse what no plain run is of, the first one that is wrong first."""
    need_plans(plans)
    need_web(web)
    if not are_words(web, words):
        raise NoWords("no words of this web")
    need_goes(plans, web, goes)


def first_worth(plan, word, ties):
    """Level 0 of a seat, by its word and how many neighbours it has."""
    # A first looks at none of the heap: only how many are in it counts.
    return worth_of(plan[0], word, (0,) * ties)


def next_worth(plan, at, own, heap):
    """The level above level at of a seat, by that level and those of its neighbours; 0 where its plan lacks it."""
    nexts = plan[1]
    if at >= len(nexts):
        return 0
    return worth_of(nexts[at], own, heap)


def next_level(plans, web, goes, level, at):
    """For each seat the worth above level at, by the worths that all seats have there."""
    return [
        next_worth(plans[goes[seat]], at, level[seat], tuple([level[other] for other in beside(web, seat)]))
        for seat in range(web[0])
    ]


def plain_levels(plans, web, words, goes):
    """The levels of each seat in the plain run, of what surely are plans, a web, words and goes of it."""
    seats = range(web[0])
    level = [first_worth(plans[goes[seat]], words[seat], len(beside(web, seat))) for seat in seats]
    told = [level]
    for at in range(wide(plans) - 1):
        level = next_level(plans, web, goes, level, at)
        told.append(level)
    return tuple([tuple([made[seat] for made in told]) for seat in seats])


def told_levels(plans, goes, rows):
    """Of each seat the worth of its row with the number of its plan's rounds."""
    return tuple([row[len(plans[number][1])] for row, number in zip(rows, goes)])


def is_words(web, thing):
    """Whether it is a row of worths, one for each seat of the web."""
    need_web(web)
    return are_words(web, thing)


def is_goes(plans, web, thing):
    """Whether it is a row of numbers of plans, one for each seat of the web."""
    need_plans(plans)
    need_web(web)
    return are_goes(plans, web, thing)


def levels(plans, web, words, goes):
    """A row for each seat: its levels in the plain run."""
    need_run_of(plans, web, words, goes)
    return plain_levels(plans, web, words, goes)


def plain_tells(plans, web, words, goes):
    """A row of worths: what each seat tells in the plain run."""
    need_run_of(plans, web, words, goes)
    return told_levels(plans, goes, plain_levels(plans, web, words, goes))
