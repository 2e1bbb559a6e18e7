"""Plain runs: all seats go round by round at once."""

from comeright.errors import NoGoes, NoWords
from comeright.plans.makers import telling
from comeright.plans.plans import need_plans, wide
from comeright.plans.terms import WORTHS
from comeright.webs.webs import all_beside, need_web


def are_below(many, top, thing):
    """Whether it is a row of so many whole numbers from 0 on, all less than top."""
    if type(thing) is not tuple or len(thing) != many:
        return False
    for number in thing:
        if type(number) is not int or not 0 <= number < top:
            return False
    return True


def are_words(web, thing):
    """Whether it is a row of worths, one for each seat of what surely is a web."""
    return are_below(web[0], WORTHS, thing)


def are_goes(plans, web, thing):
    """Whether it is a row of numbers of plans, one for each seat of what surely is a web."""
    return are_below(web[0], len(plans), thing)


def need_goes(plans, web, goes):
    """Refuse what are no goes of plans and a web."""
    if not are_goes(plans, web, goes):
        raise NoGoes("no goes of these plans and this web")


def need_run_of(plans, web, words, goes):
    """Refuse what no plain run is of, the first one that is wrong first."""
    need_plans(plans)
    need_web(web)
    if not are_words(web, words):
        raise NoWords("no words of this web")
    need_goes(plans, web, goes)


def tellings_for(plans, goes):
    """For each seat the telling of the plan that it goes by."""
    by_plan = [telling(plan, goes.count(number)) for number, plan in enumerate(plans)]
    return [by_plan[number] for number in goes]


def next_level(tellings, near, below, at):
    """For each seat the worth above level at, by the worths that all seats have there; 0 where its plan lacks it."""
    level = []
    for seat, others in enumerate(near):
        tell, (_, nexts) = tellings[seat]
        if at < len(nexts):
            level.append(tell(nexts[at], below[seat], [below[other] for other in others]))
        else:
            level.append(0)
    return level


def plain_levels(plans, web, words, goes):
    """The levels of each seat in the plain run, of what surely are plans, a web, words and goes of it."""
    near = all_beside(web)
    tellings = tellings_for(plans, goes)
    level = []
    for seat, word in enumerate(words):
        tell, (first, _) = tellings[seat]
        # A first looks at none of the heap: only how many are in it counts.
        level.append(tell(first, word, near[seat]))
    told = [level]
    for at in range(wide(plans) - 1):
        level = next_level(tellings, near, level, at)
        told.append(level)
    return tuple(zip(*told))


def told_levels(plans, goes, rows):
    """Of each seat the worth of its row with the number of its plan's rounds."""
    return tuple([row[len(plans[number][1])] for row, number in zip(rows, goes)])


def is_words(web, thing):
    """Whether it is a row of worths, one for each seat of the web."""
    need_web(web)
    return are_words(web, thing)


def is_goes(plans, web, thing):
    """Whether it is a row of numbers of plans, one for each seat of the web."""
    need_plans(plans)
    need_web(web)
    return are_goes(plans, web, thing)


def levels(plans, web, words, goes):
    """A row for each seat: its levels in the plain run."""
    need_run_of(plans, web, words, goes)
    return plain_levels(plans, web, words, goes)


def plain_tells(plans, web, words, goes):
    """A row of worths: what each seat tells in the plain run."""
    need_run_of(plans, web, words, goes)
    return told_levels(plans, goes, plain_levels(plans, web, words, goes))
