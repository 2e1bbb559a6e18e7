"""Things that several tests hand in: webs, plans, scenes, runs, and what is none of them."""

from random import Random

from tests import model

LEAST = (("word",), (("if", ("ties",), ("low", ("own",), ("least",)), ("own",)),) * 3)
WALKS = (1, (("sum",), ("sum",)))
STILL = (("plus", ("word",), ("ties",)), ())
MIXED = (
    ("times", ("word",), 3),
    (("many", 5), ("plus", ("own",), 1), ("minus", ("most",), ("own",)), 7, ("high", ("own",), ("sum",)), ("rest", 9, 4)),
)
PLANS = (LEAST, WALKS, STILL)
ALONE = (1, ())
LINE = (4, ((0, 1), (1, 2), (2, 3)))
STAR = (5, ((0, 3), (1, 3), (2, 3), (3, 4)))
APART = (6, ((0, 1), (0, 2), (1, 2), (4, 5)))
FULL = (12, tuple((a, b) for a in range(12) for b in range(a + 1, 12)))
WEBS = (ALONE, (2, ()), (2, ((0, 1),)), LINE, STAR, APART, FULL, (12, ()))


def deep(make, many):
    """Something with so many things within one another."""
    told = 7
    for _ in range(many):
        told = make(told)
    return told


ODD = (
    True, False, None, "", "word", "reckon", "a b\n~", -1, -(10 ** 39), 10 ** 39, [], {}, (), [0], {0: 1}, {"at": ()},
    (True,), (False, ()), (None,), ((),), ([],), ({},), ("",), ("word", 3), ("reckon",), ("reckon", True),
    (0,), (0, 0), (0, 1, 2), (3, [(0, 1)]), [3, ((0, 1),)], (3, ((0, 1), [1, 2])), (3, {(0, 1): 1}),
    deep(lambda told: (told,), 30), deep(lambda told: [told], 30), deep(lambda told: {"a": told}, 30),
    deep(lambda told: ("plus", told, told), 30), deep(lambda told: (told, told), 14),
    (("word",), [("own",)]), ([], ()), ({}, ()), ("plus", [], {}), ({}, 1, 2), ([], 1, 2),
)


def spoiled(thing):
    """All that thing is with just one part of it made what can stand in no such place."""
    for odd in (None, [], {}, "?", True, 10 ** 39, -1, ("?",)):
        yield odd
    if isinstance(thing, tuple):
        yield list(thing)
        yield thing + (None,)
        for at, part in enumerate(thing):
            for odd in spoiled(part):
                yield thing[:at] + (odd,) + thing[at + 1:]


def some_row(rng, many):
    """A row of so many worths."""
    return tuple(rng.choice((0, 1, 2, 3, 5, 996, rng.randrange(997))) for _ in range(many))


def some_web(rng, most):
    """A web of at most so many seats."""
    many = rng.randint(1, most)
    ties = [(a, b) for a in range(many) for b in range(a + 1, many) if rng.random() < 0.5]
    return (many, tuple(ties))


def some_term(rng, words, deep):
    """A term with no other words in it than these."""
    if deep == 0 or rng.random() < 0.3:
        head = rng.choice(words + ("worth",))
        if head == "worth":
            return rng.choice((0, 1, 2, 996, rng.randrange(997)))
        return ("many", rng.randrange(4)) if head == "many" else (head,)
    head = rng.choice(("if", "plus", "minus", "times", "over", "rest", "less", "same", "low", "high"))
    parts = 3 if head == "if" else 2
    return (head,) + tuple(some_term(rng, words, deep - 1) for _ in range(parts))


def some_plan(rng):
    """A plan."""
    first = some_term(rng, ("word", "ties"), 2)
    words = ("own", "ties", "sum", "least", "most", "many")
    return (first, tuple(some_term(rng, words, 2) for _ in range(rng.randrange(5))))


def some_parts(rng, most):
    """Plans, a web of at most so many seats, words, goes."""
    plans = tuple(some_plan(rng) for _ in range(rng.randint(1, 3)))
    web = some_web(rng, most)
    goes = tuple(rng.randrange(len(plans)) for _ in range(web[0]))
    return (plans, web, some_row(rng, web[0]), goes)


def two_ways(web):
    """The rising pairs of a seat and its neighbour."""
    return sorted(list(web[1]) + [(b, a) for a, b in web[1]])


def width_of(plans):
    return 1 + max(len(nexts) for _, nexts in plans)


def some_letters(rng, many, most=8):
    return tuple(some_row(rng, many) for _ in range(rng.randint(0, most)))


def some_scene(rng, most):
    """A scene in which anything stands."""
    plans, web, words, goes = some_parts(rng, most)
    many = width_of(plans)
    rows = tuple(some_row(rng, many) for _ in range(web[0]))
    copies = tuple((s, u, some_row(rng, many)) for s, u in two_ways(web))
    roads = tuple((s, u, some_letters(rng, many)) for s, u in two_ways(web))
    return (plans, web, words, goes, rows, copies, roads)


def some_change(rng, scene):
    """A change of a scene."""
    plans, web = scene[0], scene[1]
    many = width_of(plans)
    seat = rng.randrange(web[0])
    kind = rng.choice(("word", "goes", "put", "cut", "strike"))
    free = [(a, b) for a in range(web[0]) for b in range(a + 1, web[0]) if (a, b) not in web[1]]
    if kind == "put" and free:
        brought = (some_row(rng, many), some_row(rng, many), some_letters(rng, many), some_letters(rng, many))
        return ("put",) + rng.choice(free) + (brought,)
    if kind == "cut" and web[1]:
        return ("cut",) + rng.choice(web[1])
    if kind == "goes":
        return ("goes", seat, rng.randrange(len(plans)))
    if kind == "strike":
        near = [u for s, u in two_ways(web) if s == seat]
        copies = tuple(some_row(rng, many) for _ in near)
        out = tuple(some_letters(rng, many) for _ in near)
        into = tuple(some_letters(rng, many) for _ in near)
        return ("strike", seat, (some_row(rng, many), copies, out, into))
    return ("word", seat, rng.randrange(997))


def some_deed(rng, scene, changes):
    """A deed of a scene: so often, of a hundred, a change."""
    seat = rng.randrange(scene[1][0])
    if rng.randrange(100) < changes:
        return some_change(rng, scene)
    roads = scene[6]
    kind = rng.choice(("reckon", "send", "send", "hear", "hear", "hear", "lose", "double"))
    if kind == "reckon" or not roads:
        return ("reckon", seat)
    start, end, letters = rng.choice(roads)
    if kind == "send":
        return ("send", start, end)
    if letters and kind == "hear":
        return ("hear", end, start)
    if letters and (kind == "lose" or kind == "double" and len(letters) < 8):
        return (kind, start, end, rng.randrange(len(letters)))
    return ("reckon", seat)


def some_run(rng, scene, many, changes):
    """A run of so many deeds: so often, of a hundred, a change."""
    deeds = []
    world = model.Model(scene)
    for _ in range(many):
        deeds.append(some_deed(rng, world.scene(), changes))
        world.do(deeds[-1])
    return tuple(deeds)


def some_wavy_run(rng, scene, many, changes):
    """A run of stretches: all reckon, all send, all that lies on the roads is heard, or just something is done."""
    deeds = []
    world = model.Model(scene)
    while len(deeds) < many:
        kind = rng.choice(("reckon", "send", "hear", "hear", "any"))
        fresh = [some_deed(rng, world.scene(), changes)] if kind == "any" else []
        if kind == "reckon":
            fresh = [("reckon", s) for s in range(scene[1][0])]
        if kind == "send":
            fresh = [("send", s, u) for s, u in sorted(world.roads)]
        if kind == "hear":
            fresh = [("hear", u, s) for s, u in sorted(world.roads) for _ in world.roads[s, u]]
        for deed in fresh:
            deeds.append(deed)
            world.do(deed)
    return tuple(deeds)


def rng_of(number):
    return Random(number)
