"""Two plans joined to one: the upper goes by what the lower tells."""

from comeright.errors import TooLong
from comeright.plans.plans import MOST_ROUNDS, need_plan


def own_for_word(term):
    """A first with own for word: a next of the same."""
    if type(term) is int:
        return term
    if term == ("word",):
        return ("own",)
    return term[:1] + tuple([own_for_word(part) for part in term[1:]])


def joined(lower, upper):
    """The plan that does what the lower one does, then what the upper one does by what the lower one tells."""
    need_plan(lower)
    need_plan(upper)
    nexts = lower[1] + (own_for_word(upper[0]),) + upper[1]
    if len(nexts) > MOST_ROUNDS:
        raise TooLong(len(nexts))
    return (lower[0], nexts)
