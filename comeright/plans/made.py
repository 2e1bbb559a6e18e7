"""Made plans: the least word near, the steps to a word of 0, the greatest word near, how many walks there are."""

from comeright.errors import NoNumber, NoPlan
from comeright.kinds import is_below
from comeright.plans.plans import MOST_ROUNDS

MADE = ("least", "most", "steps", "walks")
FIRSTS = {
    "least": ("word",),
    "most": ("word",),
    "steps": ("if", ("word",), 996, 0),
    "walks": 1,
}
# Of steps, 996 is of seats that know of none: it is no number of steps, and stays.
NEXTS = {
    "least": ("if", ("ties",), ("low", ("own",), ("least",)), ("own",)),
    "most": ("high", ("own",), ("most",)),
    "steps": (
        "if", ("less", ("least",), 996),
        ("if", ("ties",), ("low", ("own",), ("plus", ("least",), 1)), ("own",)), ("own",),
    ),
    "walks": ("sum",),
}


def made_plan(word, rounds):
    """The made plan of this word, of so many rounds, each next alike."""
    if word not in MADE:
        raise NoPlan("no word of a made plan")
    if not is_below(rounds, MOST_ROUNDS + 1):
        raise NoNumber(rounds)
    return (FIRSTS[word], (NEXTS[word],) * rounds)
