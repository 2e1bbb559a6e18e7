"""Terms: firsts and nexts, whether they look, what they come to."""

from comeright.errors import NoNumber, NoTerm, NoWords
from comeright.kinds import is_below, is_row

WORTHS = 997
MOST_TERMS = 40
MOST_WITHIN = 5
MOST_HEAP = 11
# More than a term may have in it: what is counted so is none.
NO_TERM = MOST_TERMS + 1
# What a first and a next have in them besides worths: the terms of one word, and those of a word and a worth.
BARE_OF_FIRST = ("word", "ties")
PAIR_OF_FIRST = ()
BARE_OF_NEXT = ("own", "ties", "least", "most", "sum")
PAIR_OF_NEXT = ("many",)
OF_HEAP = ("sum", "least", "most", "many")


def plus(one, two):
    """Both together."""
    return (one + two) % WORTHS


def minus(one, two):
    """The first less the second."""
    return (one - two) % WORTHS


def times(one, two):
    """The first times the second."""
    return (one * two) % WORTHS


def over(one, two):
    """How often the second goes into the first; by 0 it is 0."""
    if two == 0:
        return 0
    return one // two


def rest(one, two):
    """What the second leaves of the first; by 0 it is 0, not the first."""
    if two == 0:
        return 0
    return one % two


def less(one, two):
    """1 where the first is less than the second, else 0."""
    return 1 if one < two else 0


def same(one, two):
    """1 where both are alike, else 0."""
    return 1 if one == two else 0


def low(one, two):
    """The lesser."""
    return one if one < two else two


def high(one, two):
    """The greater."""
    return two if one < two else one


OPS = {
    "plus": plus,
    "minus": minus,
    "times": times,
    "over": over,
    "rest": rest,
    "less": less,
    "same": same,
    "low": low,
    "high": high,
}


def own_worth(worth, heap):
    """The worth itself."""
    return worth


def heap_ties(worth, heap):
    """How many neighbours there are."""
    return len(heap)


def heap_sum(worth, heap):
    """All of the heap together."""
    return sum(heap) % WORTHS


def heap_least(worth, heap):
    """The least of the heap; 0 of none."""
    return min(heap) if len(heap) > 0 else 0


def heap_most(worth, heap):
    """The greatest of the heap; 0 of none."""
    return max(heap) if len(heap) > 0 else 0


BARE = {
    "word": own_worth,
    "own": own_worth,
    "ties": heap_ties,
    "sum": heap_sum,
    "least": heap_least,
    "most": heap_most,
}


def is_worth(thing):
    """Whether it is a worth."""
    return is_below(thing, WORTHS)


def count_terms(thing, bare, pair, deep):
    """How many terms are in a row of three or more; too many where it is no term of these words, or too deep."""
    # Plans are asked for often: so a leaf is looked at in the loop, and only what has terms in it in a call of its own.
    many = len(thing)
    head = thing[0]
    # Only a text is looked up in OPS: a list there would be an error of Python's own.
    if deep == 0 or many == 3 and (type(head) is not str or head not in OPS):
        return NO_TERM
    if many > 3 and (many > 4 or head != "if"):
        return NO_TERM
    for part in thing[1:]:
        if type(part) is tuple:
            size = len(part)
            if size == 1:
                if part[0] not in bare:
                    return NO_TERM
            elif size > 2:
                many += count_terms(part, bare, pair, deep - 1) - 1
            elif size == 0 or part[0] not in pair or not is_worth(part[1]):
                return NO_TERM
        elif type(part) is not int or not 0 <= part < WORTHS:
            return NO_TERM
    return many


def are_terms(things, bare, pair):
    """Whether each of a row of things is a term of these words."""
    for thing in things:
        if type(thing) is tuple:
            size = len(thing)
            if size == 1:
                if thing[0] not in bare:
                    return False
            elif size > 2:
                if count_terms(thing, bare, pair, MOST_WITHIN) > MOST_TERMS:
                    return False
            elif size == 0 or thing[0] not in pair or not is_worth(thing[1]):
                return False
        elif type(thing) is not int or not 0 <= thing < WORTHS:
            return False
    return True


def are_firsts(things):
    """Whether each of a row of things is a first."""
    return are_terms(things, BARE_OF_FIRST, PAIR_OF_FIRST)


def are_nexts(things):
    """Whether each of a row of things is a next."""
    return are_terms(things, BARE_OF_NEXT, PAIR_OF_NEXT)


def is_first(thing):
    """Whether it is a first: a term of a word and of how many neighbours there are."""
    return are_firsts((thing,))


def is_next(thing):
    """Whether it is a next: a term without word."""
    return are_nexts((thing,))


def need_term(term):
    """Refuse what is neither a first nor a next."""
    if not is_first(term) and not is_next(term):
        raise NoTerm("neither a first nor a next")


def looks(term):
    """Whether what surely is a term has something of the neighbours' worths in it."""
    if type(term) is int:
        return False
    return term[0] in OF_HEAP or any([looks(part) for part in term[1:]])


def worth_of(term, worth, heap):
    """What a term comes to, of what surely are a term, a worth, and a heap of as many worths as neighbours."""
    if type(term) is int:
        return term
    size = len(term)
    if size == 1:
        telling = BARE[term[0]]
        return telling(worth, heap)
    if size == 2:
        return heap.count(term[1])
    if size == 3:
        action = OPS[term[0]]
        return action(worth_of(term[1], worth, heap), worth_of(term[2], worth, heap))
    chosen = term[3] if worth_of(term[1], worth, heap) == 0 else term[2]
    return worth_of(chosen, worth, heap)


def does_look(term):
    """Whether a first or a next looks."""
    need_term(term)
    return looks(term)


def comes_to(term, worth, heap):
    """What a first or a next comes to, by a word or an own worth, and by the heap of the neighbours' worths."""
    need_term(term)
    if not is_worth(worth):
        raise NoNumber(worth)
    if not is_row(heap, 0, MOST_HEAP) or not all([is_worth(part) for part in heap]):
        raise NoWords("no heap of none to eleven worths")
    return worth_of(term, worth, heap)
