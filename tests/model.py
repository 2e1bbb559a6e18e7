"""The points told anew, in plain dicts, for tests to hold the program against."""


def ops(op, t, u):
    if op == "plus":
        return (t + u) % 997
    if op == "minus":
        return (t - u) % 997
    if op == "times":
        return (t * u) % 997
    if op == "over":
        return t // u if u else 0
    if op == "rest":
        return t - u * (t // u) if u else 0
    return {"less": int(t < u), "same": int(t == u), "low": min(t, u), "high": max(t, u)}[op]


def value(term, worth, heap):
    if isinstance(term, int):
        return term
    head = term[0]
    if head in ("word", "own"):
        return worth
    if head == "ties":
        return len(heap)
    if head == "sum":
        return sum(heap) % 997
    if head in ("least", "most"):
        return sorted(heap)[0 if head == "least" else -1] if heap else 0
    if head == "many":
        return len([part for part in heap if part == term[1]])
    if head == "if":
        return value(term[2], worth, heap) if value(term[1], worth, heap) != 0 else value(term[3], worth, heap)
    return ops(head, value(term[1], worth, heap), value(term[2], worth, heap))


def near(web, seat):
    return sorted({b for a, b in web[1] if a == seat} | {a for a, b in web[1] if b == seat})


def far(web):
    """All steps, by going over each seat on the way."""
    told = {(s, u): 0 if s == u else None for s in range(web[0]) for u in range(web[0])}
    for a, b in web[1]:
        told[a, b] = told[b, a] = 1
    for k in range(web[0]):
        for s in range(web[0]):
            for u in range(web[0]):
                if told[s, k] is not None and told[k, u] is not None:
                    way = told[s, k] + told[k, u]
                    told[s, u] = way if told[s, u] is None else min(way, told[s, u])
    return told


def looks(term):
    return isinstance(term, tuple) and (
        term[0] in ("sum", "least", "most", "many") or any(looks(part) for part in term[1:])
    )


def level(plans, web, words, goes, seat, at):
    """One level, straight from the levels below it."""
    first, nexts = plans[goes[seat]]
    heap = [0] * len(near(web, seat))
    if at == 0:
        return value(first, words[seat], heap)
    if at > len(nexts):
        return 0
    below = [level(plans, web, words, goes, other, at - 1) for other in near(web, seat)]
    return value(nexts[at - 1], level(plans, web, words, goes, seat, at - 1), below)


def run(plans, web, words, goes):
    width = 1 + max(len(nexts) for _, nexts in plans)
    return tuple(tuple(level(plans, web, words, goes, s, i) for i in range(width)) for s in range(web[0]))


def reach(plans, web, goes, seat, at):
    if at == 0:
        return 0
    nexts = plans[goes[seat]][1]
    told = reach(plans, web, goes, seat, at - 1)
    if at <= len(nexts) and looks(nexts[at - 1]):
        told = max([told] + [1 + reach(plans, web, goes, u, at - 1) for u in near(web, seat)])
    return told


class Model:
    """A scene in dicts, that deeds change."""

    def __init__(self, scene):
        self.plans, web, words, goes, rows, copies, roads = scene
        self.many = web[0]
        self.ties = set(web[1])
        self.words = dict(enumerate(words))
        self.goes = dict(enumerate(goes))
        self.rows = dict(enumerate(rows))
        self.copies = {(s, u): row for s, u, row in copies}
        self.roads = {(s, u): list(letters) for s, u, letters in roads}

    def scene(self):
        order = range(self.many)
        return (
            self.plans,
            (self.many, tuple(sorted(self.ties))),
            tuple(self.words[s] for s in order),
            tuple(self.goes[s] for s in order),
            tuple(self.rows[s] for s in order),
            tuple(sorted((s, u, row) for (s, u), row in self.copies.items())),
            tuple(sorted((s, u, tuple(letters)) for (s, u), letters in self.roads.items())),
        )

    def near(self, seat):
        return near((self.many, self.ties), seat)

    def do(self, deed):
        getattr(self, "do_" + deed[0])(*deed[1:])

    def do_reckon(self, s):
        first, nexts = self.plans[self.goes[s]]
        held = [self.copies[s, u] for u in self.near(s)]
        row = [value(first, self.words[s], [0] * len(held))]
        for at in range(len(self.rows[s]) - 1):
            row.append(value(nexts[at], row[at], [copy[at] for copy in held]) if at < len(nexts) else 0)
        self.rows[s] = tuple(row)

    def do_send(self, s, u):
        if len(self.roads[s, u]) < 8:
            self.roads[s, u].append(self.rows[s])

    def do_hear(self, s, u):
        self.copies[s, u] = self.roads[u, s].pop(0)

    def do_lose(self, s, u, k):
        del self.roads[s, u][k]

    def do_double(self, s, u, k):
        self.roads[s, u].insert(k, self.roads[s, u][k])

    def do_word(self, s, w):
        self.words[s] = w

    def do_goes(self, s, n):
        self.goes[s] = n

    def do_put(self, a, b, brought):
        here, there, on, back = brought
        self.ties.add((a, b))
        self.copies[a, b], self.copies[b, a] = here, there
        self.roads[a, b], self.roads[b, a] = list(on), list(back)

    def do_cut(self, a, b):
        self.ties.remove((a, b))
        for pair in ((a, b), (b, a)):
            del self.copies[pair]
            del self.roads[pair]

    def do_strike(self, s, struck):
        row, copies, out, into = struck
        self.rows[s] = row
        for at, u in enumerate(self.near(s)):
            self.copies[s, u] = copies[at]
            self.roads[s, u] = list(out[at])
            self.roads[u, s] = list(into[at])


def behind(scene, deed):
    model = Model(scene)
    model.do(deed)
    return model.scene()


def seats_of(deed):
    if deed[0] in ("put", "cut"):
        return [deed[1], deed[2]]
    return [deed[1]] if deed[0] in ("word", "goes", "strike") else []


def heard(scene, deeds):
    """For each hear the number of the deed that sent the letter, or None: (place, from, to, number)."""
    roads = {(s, u): [None] * len(letters) for s, u, letters in scene[6]}
    told = []
    for at, deed in enumerate(deeds):
        if deed[0] == "send" and len(roads[deed[1], deed[2]]) < 8:
            roads[deed[1], deed[2]].append(at)
        elif deed[0] == "hear":
            told.append((at, deed[2], deed[1], roads[deed[2], deed[1]].pop(0)))
        elif deed[0] == "lose":
            del roads[deed[1], deed[2]][deed[3]]
        elif deed[0] == "double":
            row = roads[deed[1], deed[2]]
            row.insert(deed[3], row[deed[3]])
        elif deed[0] == "put":
            roads[deed[1], deed[2]] = [None] * len(deed[3][2])
            roads[deed[2], deed[1]] = [None] * len(deed[3][3])
        elif deed[0] == "cut":
            del roads[deed[1], deed[2]], roads[deed[2], deed[1]]
        elif deed[0] == "strike":
            for k, u in enumerate(sorted(b for a, b in roads if a == deed[1])):
                roads[deed[1], u] = [None] * len(deed[2][2][k])
                roads[u, deed[1]] = [None] * len(deed[2][3][k])
        scene = behind(scene, deed)
    return told


def is_wave(web, deeds, listened, begin, end, apart):
    """Word by word as the point on waves has it: by the web at begin, and by what is heard in the whole run."""
    if begin >= end:
        return False
    stretch = range(begin, end)
    if any(seat not in apart for at in stretch for seat in seats_of(deeds[at])):
        return False
    for s in range(web[0]):
        if s in apart:
            continue
        reckons = [at for at in stretch if deeds[at] == ("reckon", s)]
        if not reckons:
            return False
        for u in near(web, s):
            good = [
                at for at, start, stop, sent in listened
                if at in stretch and (start, stop) == (s, u) and sent is not None and sent > reckons[0]
            ]
            if u not in apart and not good:
                return False
    return True


def all_waves(scene, deeds, apart):
    """All (begin, end) of a run that are a wave."""
    listened = heard(scene, deeds)
    webs = [scene[1]]
    for deed in deeds:
        scene = behind(scene, deed)
        webs.append(scene[1])
    moments = range(len(deeds) + 1)
    return {
        (begin, end) for begin in moments for end in moments
        if is_wave(webs[begin], deeds, listened, begin, end, apart)
    }
