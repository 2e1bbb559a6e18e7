"""Terms of tables: what rules and wishes are made of, and what they come to at many places at once."""

from comeright.plans.terms import OPS, is_worth

WITHIN_TABLES = 16
TERMS_OF_TABLES = 200
# Less than can be left of any terms: what is counted so is none.
NO_TERM = -1


def is_leaf(thing, words):
    """Whether it is one of these words alone, or one with a number below what words has for it."""
    word = thing[0]
    # Only a text is looked up in words: a list there would be an error of Python's own.
    if type(word) is not str or word not in words:
        return False
    if words[word] is None:
        return len(thing) == 1
    return len(thing) == 2 and type(thing[1]) is int and 0 <= thing[1] < words[word]


def is_head(thing):
    """Whether a row of three or more is of an op and two, or of if and three."""
    head = thing[0]
    if len(thing) == 3:
        return type(head) is str and head in OPS
    return len(thing) == 4 and head == "if"


def terms_left(thing, words, deep, left):
    """How many of so many terms are left behind those in a thing; NO_TERM where it is none, too deep, or has more."""
    if left == 0:
        return NO_TERM
    if type(thing) is not tuple or len(thing) < 3:
        leaf = is_worth(thing) or type(thing) is tuple and len(thing) > 0 and is_leaf(thing, words)
        return left - 1 if leaf else NO_TERM
    if deep == 0 or not is_head(thing):
        return NO_TERM
    left -= 1
    for part in thing[1:]:
        left = terms_left(part, words, deep - 1, left)
        # No more is looked at: what is none may have more parts than can be gone through.
        if left == NO_TERM:
            return NO_TERM
    return left


def is_term(thing, words):
    """Whether it is a worth, a leaf of these words, or made of such.

    Words are a dict: of each word of a leaf None, or below what the number must be that stands with it.
    """
    return terms_left(thing, words, WITHIN_TABLES, TERMS_OF_TABLES) != NO_TERM


def has_leaf(term, leaf):
    """Whether a leaf stands in what surely is a term."""
    if type(term) is int:
        return False
    return term == leaf or len(term) > 2 and len([1 for part in term[1:] if has_leaf(part, leaf)]) > 0


def come_to(term, leaves, many):
    """What a term comes to at each of so many places, of what surely is one; leaves has what each leaf is there."""
    if type(term) is int:
        return [term] * many
    if len(term) < 3:
        return leaves[term]
    one = come_to(term[1], leaves, many)
    two = come_to(term[2], leaves, many)
    if len(term) == 3:
        action = OPS[term[0]]
        return [action(first, second) for first, second in zip(one, two)]
    three = come_to(term[3], leaves, many)
    return [other if guard == 0 else then for guard, then, other in zip(one, two, three)]
