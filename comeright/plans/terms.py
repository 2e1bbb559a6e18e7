"""Terms: firsts and nexts, whether they look, what they come to."""

from comeright.errors import NoNumber, NoTerm, NoWords
from comeright.kinds import is_below, is_row

WORTHS = 997
MOST_TERMS = 40
MOST_WITHIN = 5
MOST_HEAP = 11
BARE = ("word", "own", "ties", "sum", "least", "most")
OF_HEAP = ("sum", "least", "most", "many")
OF_NEXT = ("own", "sum", "least", "most", "many")
OF_FIRST = ("word",)


def plus(one, two):
    """Both together."""
    return (one + two) % WORTHS


def minus(one, two):
    """The first less the second."""
    return (one - two) % WORTHS


def times(one, two):
    """The first times the second."""
    return (one * two) % WORTHS


def over(one, two):
    """How often the second goes into the first; by 0 it is 0."""
    if two == 0:
        return 0
    return one // two


def rest(one, two):
    """What the second leaves of the first; by 0 it is 0, not the first."""
    if two == 0:
        return 0
    return one % two


def less(one, two):
    """1 where the first is less than the second, else 0."""
    return 1 if one < two else 0


def same(one, two):
    """1 where both are alike, else 0."""
    return 1 if one == two else 0


def low(one, two):
    """The lesser."""
    return one if one < two else two


def high(one, two):
    """The greater."""
    return two if one < two else one


OPS = {
    "plus": plus,
    "minus": minus,
    "times": times,
    "over": over,
    "rest": rest,
    "less": less,
    "same": same,
    "low": low,
    "high": high,
}


def is_worth(thing):
    """Whether it is a worth."""
    return is_below(thing, WORTHS)


def is_leaf(thing):
    """Whether it is a term that has no other terms in it."""
    if is_row(thing, 1, 1):
        return thing[0] in BARE
    if is_row(thing, 2, 2):
        return thing[0] == "many" and is_worth(thing[1])
    return is_worth(thing)


def is_branch(thing):
    """Whether it has the form of an op or an if: its parts may be anything."""
    # Only a text is looked up in OPS: a list there would be an error of Python's own.
    if not is_row(thing, 3, 4) or type(thing[0]) is not str:
        return False
    if len(thing) == 4:
        return thing[0] == "if"
    return thing[0] in OPS


def count_terms(thing, deep):
    """How many terms are in a term, itself too; 0 of none, or of one with more than deep branches in one another."""
    if is_leaf(thing):
        return 1
    if deep == 0 or not is_branch(thing):
        return 0
    counts = [count_terms(part, deep - 1) for part in thing[1:]]
    if 0 in counts:
        return 0
    return 1 + sum(counts)


def is_term(thing):
    """Whether it is a term."""
    return 1 <= count_terms(thing, MOST_WITHIN) <= MOST_TERMS


def has_any(term, heads):
    """Whether one of these words is in what surely is a term."""
    if type(term) is int:
        return False
    return term[0] in heads or any([has_any(part, heads) for part in term[1:]])


def is_first(thing):
    """Whether it is a first: a term of a word and of how many neighbours there are."""
    return is_term(thing) and not has_any(thing, OF_NEXT)


def is_next(thing):
    """Whether it is a next: a term without word."""
    return is_term(thing) and not has_any(thing, OF_FIRST)


def need_term(term):
    """Refuse what is neither a first nor a next."""
    if not is_first(term) and not is_next(term):
        raise NoTerm("neither a first nor a next")


def looks(term):
    """Whether what surely is a term has something of the neighbours' worths in it."""
    return has_any(term, OF_HEAP)


def bare_worth(word, worth, heap):
    """What a term of one word comes to."""
    if word == "ties":
        return len(heap)
    if word == "sum":
        return sum(heap) % WORTHS
    if word == "least":
        return min(heap, default=0)
    if word == "most":
        return max(heap, default=0)
    return worth


def worth_of(term, worth, heap):
    """What a term comes to, of what surely are a term, a worth, and a heap of as many worths as neighbours."""
    if type(term) is int:
        return term
    if len(term) == 1:
        return bare_worth(term[0], worth, heap)
    if term[0] == "many":
        return heap.count(term[1])
    if term[0] == "if":
        chosen = term[3] if worth_of(term[1], worth, heap) == 0 else term[2]
        return worth_of(chosen, worth, heap)
    action = OPS[term[0]]
    return action(worth_of(term[1], worth, heap), worth_of(term[2], worth, heap))


def does_look(term):
    """Whether a first or a next looks."""
    need_term(term)
    return looks(term)


def comes_to(term, worth, heap):
    """What a first or a next comes to, by a word or an own worth, and by the heap of the neighbours' worths."""
    need_term(term)
    if not is_worth(worth):
        raise NoNumber(worth)
    if not is_row(heap, 0, MOST_HEAP) or not all([is_worth(part) for part in heap]):
        raise NoWords("no heap of none to eleven worths")
    return worth_of(term, worth, heap)
