"""The points told anew, in plain dicts, for tests to hold the program against."""


def ops(op, t, u):
    if op == "plus":
        return (t + u) % 997
    if op == "minus":
        return (t - u) % 997
    if op == "times":
        return (t * u) % 997
    if op == "over":
        return t // u if u else 0
    if op == "rest":
        return t - u * (t // u) if u else 0
    return {"less": int(t < u), "same": int(t == u), "low": min(t, u), "high": max(t, u)}[op]


def value(term, worth, heap):
    if isinstance(term, int):
        return term
    head = term[0]
    if head in ("word", "own"):
        return worth
    if head == "ties":
        return len(heap)
    if head == "sum":
        return sum(heap) % 997
    if head in ("least", "most"):
        return sorted(heap)[0 if head == "least" else -1] if heap else 0
    if head == "many":
        return len([part for part in heap if part == term[1]])
    if head == "if":
        return value(term[2], worth, heap) if value(term[1], worth, heap) != 0 else value(term[3], worth, heap)
    return ops(head, value(term[1], worth, heap), value(term[2], worth, heap))


def near(web, seat):
    return sorted({b for a, b in web[1] if a == seat} | {a for a, b in web[1] if b == seat})


def far(web):
    """All steps, by going over each seat on the way."""
    told = {(s, u): 0 if s == u else None for s in range(web[0]) for u in range(web[0])}
    for a, b in web[1]:
        told[a, b] = told[b, a] = 1
    for k in range(web[0]):
        for s in range(web[0]):
            for u in range(web[0]):
                if told[s, k] is not None and told[k, u] is not None:
                    way = told[s, k] + told[k, u]
                    told[s, u] = way if told[s, u] is None else min(way, told[s, u])
    return told


def looks(term):
    return isinstance(term, tuple) and (
        term[0] in ("sum", "least", "most", "many") or any(looks(part) for part in term[1:])
    )


def level(plans, web, words, goes, seat, at):
    """One level, straight from the levels below it."""
    first, nexts = plans[goes[seat]]
    heap = [0] * len(near(web, seat))
    if at == 0:
        return value(first, words[seat], heap)
    if at > len(nexts):
        return 0
    below = [level(plans, web, words, goes, other, at - 1) for other in near(web, seat)]
    return value(nexts[at - 1], level(plans, web, words, goes, seat, at - 1), below)


def run(plans, web, words, goes):
    width = 1 + max(len(nexts) for _, nexts in plans)
    return tuple(tuple(level(plans, web, words, goes, s, i) for i in range(width)) for s in range(web[0]))


def reach(plans, web, goes, seat, at):
    if at == 0:
        return 0
    nexts = plans[goes[seat]][1]
    told = reach(plans, web, goes, seat, at - 1)
    if at <= len(nexts) and looks(nexts[at - 1]):
        told = max([told] + [1 + reach(plans, web, goes, u, at - 1) for u in near(web, seat)])
    return told


class Model:
    """A scene in dicts, that deeds change."""

    def __init__(self, scene):
        self.plans, web, words, goes, rows, copies, roads = scene
        self.many = web[0]
        self.ties = set(web[1])
        self.words = dict(enumerate(words))
        self.goes = dict(enumerate(goes))
        self.rows = dict(enumerate(rows))
        self.copies = {(s, u): row for s, u, row in copies}
        self.roads = {(s, u): list(letters) for s, u, letters in roads}

    def scene(self):
        order = range(self.many)
        return (
            self.plans,
            (self.many, tuple(sorted(self.ties))),
            tuple(self.words[s] for s in order),
            tuple(self.goes[s] for s in order),
            tuple(self.rows[s] for s in order),
            tuple(sorted((s, u, row) for (s, u), row in self.copies.items())),
            tuple(sorted((s, u, tuple(letters)) for (s, u), letters in self.roads.items())),
        )

    def near(self, seat):
        return near((self.many, self.ties), seat)

    def do(self, deed):
        getattr(self, "do_" + deed[0])(*deed[1:])

    def do_reckon(self, s):
        first, nexts = self.plans[self.goes[s]]
        held = [self.copies[s, u] for u in self.near(s)]
        row = [value(first, self.words[s], [0] * len(held))]
        for at in range(len(self.rows[s]) - 1):
            row.append(value(nexts[at], row[at], [copy[at] for copy in held]) if at < len(nexts) else 0)
        self.rows[s] = tuple(row)

    def do_send(self, s, u):
        if len(self.roads[s, u]) < 8:
            self.roads[s, u].append(self.rows[s])

    def do_hear(self, s, u):
        self.copies[s, u] = self.roads[u, s].pop(0)

    def do_lose(self, s, u, k):
        del self.roads[s, u][k]

    def do_double(self, s, u, k):
        self.roads[s, u].insert(k, self.roads[s, u][k])

    def do_word(self, s, w):
        self.words[s] = w

    def do_goes(self, s, n):
        self.goes[s] = n

    def do_put(self, a, b, brought):
        here, there, on, back = brought
        self.ties.add((a, b))
        self.copies[a, b], self.copies[b, a] = here, there
        self.roads[a, b], self.roads[b, a] = list(on), list(back)

    def do_cut(self, a, b):
        self.ties.remove((a, b))
        for pair in ((a, b), (b, a)):
            del self.copies[pair]
            del self.roads[pair]

    def do_strike(self, s, struck):
        row, copies, out, into = struck
        self.rows[s] = row
        for at, u in enumerate(self.near(s)):
            self.copies[s, u] = copies[at]
            self.roads[s, u] = list(out[at])
            self.roads[u, s] = list(into[at])


def behind(scene, deed):
    model = Model(scene)
    model.do(deed)
    return model.scene()


def seats_of(deed):
    if deed[0] in ("put", "cut"):
        return [deed[1], deed[2]]
    return [deed[1]] if deed[0] in ("word", "goes", "strike") else []


def heard(scene, deeds):
    """For each hear the number of the deed that sent the letter, or None: (place, from, to, number)."""
    roads = {(s, u): [None] * len(letters) for s, u, letters in scene[6]}
    told = []
    for at, deed in enumerate(deeds):
        if deed[0] == "send" and len(roads[deed[1], deed[2]]) < 8:
            roads[deed[1], deed[2]].append(at)
        elif deed[0] == "hear":
            told.append((at, deed[2], deed[1], roads[deed[2], deed[1]].pop(0)))
        elif deed[0] == "lose":
            del roads[deed[1], deed[2]][deed[3]]
        elif deed[0] == "double":
            row = roads[deed[1], deed[2]]
            row.insert(deed[3], row[deed[3]])
        elif deed[0] == "put":
            roads[deed[1], deed[2]] = [None] * len(deed[3][2])
            roads[deed[2], deed[1]] = [None] * len(deed[3][3])
        elif deed[0] == "cut":
            del roads[deed[1], deed[2]], roads[deed[2], deed[1]]
        elif deed[0] == "strike":
            for k, u in enumerate(sorted(b for a, b in roads if a == deed[1])):
                roads[deed[1], u] = [None] * len(deed[2][2][k])
                roads[u, deed[1]] = [None] * len(deed[2][3][k])
        scene = behind(scene, deed)
    return told


def is_wave(web, deeds, listened, begin, end, apart):
    """Word by word as the point on waves has it: by the web at begin, and by what is heard in the whole run."""
    if begin >= end:
        return False
    stretch = range(begin, end)
    if any(seat not in apart for at in stretch for seat in seats_of(deeds[at])):
        return False
    for s in range(web[0]):
        if s in apart:
            continue
        reckons = [at for at in stretch if deeds[at] == ("reckon", s)]
        if not reckons:
            return False
        for u in near(web, s):
            good = [
                at for at, start, stop, sent in listened
                if at in stretch and (start, stop) == (s, u) and sent is not None and sent > reckons[0]
            ]
            if u not in apart and not good:
                return False
    return True


def all_waves(scene, deeds, apart):
    """All (begin, end) of a run that are a wave."""
    listened = heard(scene, deeds)
    webs = [scene[1]]
    for deed in deeds:
        scene = behind(scene, deed)
        webs.append(scene[1])
    moments = range(len(deeds) + 1)
    return {
        (begin, end) for begin in moments for end in moments
        if is_wave(webs[begin], deeds, listened, begin, end, apart)
    }


class Sure:
    """The numbers of sure levels, told word by word: sets of levels for each row, copy and letter."""

    def __init__(self, scene, right):
        self.model = Model(scene)
        self.width = 1 + max(len(nexts) for _, nexts in scene[0])
        start = self.width if right else 0
        self.rows = {s: start for s in range(scene[1][0])}
        self.copies = {(s, u): start for s, u, _ in scene[5]}
        self.roads = {(s, u): [start] * len(letters) for s, u, letters in scene[6]}

    def numbers(self):
        return (
            tuple(self.rows[s] for s in sorted(self.rows)),
            tuple((s, u, self.copies[s, u]) for s, u in sorted(self.copies)),
            tuple((s, u, tuple(self.roads[s, u])) for s, u in sorted(self.roads)),
        )

    def do(self, deed):
        word = deed[0]
        near = self.model.near(deed[1])
        if word == "reckon":
            nexts = self.model.plans[self.model.goes[deed[1]]][1]
            sure = [True]
            for i in range(self.width - 1):
                seen = i >= len(nexts) or not looks(nexts[i]) or all(self.copies[deed[1], u] > i for u in near)
                sure.append(sure[i] and seen)
            self.rows[deed[1]] = sum(sure)
        elif word == "send" and len(self.roads[deed[1], deed[2]]) < 8:
            self.roads[deed[1], deed[2]].append(self.rows[deed[1]])
        elif word == "hear":
            self.copies[deed[1], deed[2]] = self.roads[deed[2], deed[1]].pop(0)
        elif word == "lose":
            del self.roads[deed[1], deed[2]][deed[3]]
        elif word == "double":
            self.roads[deed[1], deed[2]].insert(deed[3], self.roads[deed[1], deed[2]][deed[3]])
        elif word == "put":
            for pair, letters in (((deed[1], deed[2]), deed[3][2]), ((deed[2], deed[1]), deed[3][3])):
                self.copies[pair] = 0
                self.roads[pair] = [0] * len(letters)
        elif word == "cut":
            for pair in ((deed[1], deed[2]), (deed[2], deed[1])):
                del self.copies[pair], self.roads[pair]
        elif word == "strike":
            self.rows[deed[1]] = 0
            for k, u in enumerate(near):
                self.copies[deed[1], u] = 0
                self.roads[deed[1], u] = [0] * len(deed[2][2][k])
                self.roads[u, deed[1]] = [0] * len(deed[2][3][k])
        self.model.do(deed)
        if word in ("word", "goes", "put", "cut"):
            self.lessen(seats_of(deed))

    def lessen(self, changed):
        """Of each seat just those first levels stay sure that reach fewer steps than it is from each changed one."""
        scene = self.model.scene()
        steps = far(scene[1])
        most = {}
        for s in range(scene[1][0]):
            away = [steps[s, c] for c in changed if steps[s, c] is not None]
            levels = [i for i in range(self.width) if not away or reach(scene[0], scene[1], scene[3], s, i) < min(away)]
            most[s] = len(levels)
        self.rows = {s: min(k, most[s]) for s, k in self.rows.items()}
        self.copies = {(s, u): min(k, most[u]) for (s, u), k in self.copies.items()}
        self.roads = {(s, u): [min(k, most[s]) for k in row] for (s, u), row in self.roads.items()}


def sure(scene, deeds, right):
    told = Sure(scene, right)
    for deed in deeds:
        told.do(deed)
    return told.numbers()


def stamps_at(scene, deeds):
    """Of each moment of a calm run (rows, copies): what deed made the row, and the row that a copy has."""
    rows = {s: None for s in range(scene[1][0])}
    copies = {(s, u): None for s, u, _ in scene[5]}
    roads = {(s, u): [None] * len(letters) for s, u, letters in scene[6]}
    told = [(dict(rows), dict(copies))]
    for at, deed in enumerate(deeds):
        if deed[0] == "reckon":
            rows[deed[1]] = at
        elif deed[0] == "send" and len(roads[deed[1:3]]) < 8:
            roads[deed[1:3]].append(rows[deed[1]])
        elif deed[0] == "hear":
            copies[deed[1:3]] = roads[deed[2], deed[1]].pop(0)
        elif deed[0] == "lose":
            del roads[deed[1:3]][deed[3]]
        elif deed[0] == "double":
            roads[deed[1:3]].insert(deed[3], roads[deed[1:3]][deed[3]])
        told.append((dict(rows), dict(copies)))
    return told


def is_ground(scene, deeds, seat, level, pairs):
    """Whether a set of pairs is a ground, word by word."""
    told = stamps_at(scene, deeds)
    if (told[-1][0][seat], level) not in pairs:
        return False
    for k, i in pairs:
        if type(k) is not int or not 0 <= k < len(deeds) or deeds[k][0] != "reckon":
            return False
        s = deeds[k][1]
        nexts = scene[0][scene[3][s]][1]
        if i > 0 and (k, i - 1) not in pairs:
            return False
        if 0 < i <= len(nexts) and looks(nexts[i - 1]):
            if any((told[k][1][s, u], i - 1) not in pairs for u in near(scene[1], s)):
                return False
    return True


def agrees(scene, seat):
    model = Model(scene)
    model.do_reckon(seat)
    mine = model.rows[seat] == scene[4][seat]
    copies = all(row == scene[4][u] for s, u, row in scene[5] if s == seat)
    return mine and copies and all(row == scene[4][s] for s, u, letters in scene[6] if u == seat for row in letters)


def unfounded(scene, seat, level):
    first, nexts = scene[0][scene[3][seat]]
    copies = {u: row for s, u, row in scene[5] if s == seat}
    mine = scene[4][seat]
    if level == 0:
        return mine[0] != value(first, scene[2][seat], [0] * len(copies))
    if level > len(nexts):
        return mine[level] != 0
    made = value(nexts[level - 1], mine[level - 1], [row[level - 1] for row in copies.values()])
    seen = any(row[level - 1] != scene[4][u][level - 1] for u, row in copies.items())
    return mine[level] != made or looks(nexts[level - 1]) and seen


def wrong(scene):
    right = run(*scene[:4])
    return [(s, i) for s, row in enumerate(scene[4]) for i, worth in enumerate(row) if worth != right[s][i]]


def is_chain(scene, seat, level, row):
    """Whether a row of places is a chain from a wrong level, word by word."""
    bad = wrong(scene)
    if not row or row[0] != (seat, level) or any(place not in bad for place in row):
        return False
    for (s, i), (u, j) in zip(row, row[1:]):
        nexts = scene[0][scene[3][s]][1]
        sees = 0 < i <= len(nexts) and looks(nexts[i - 1]) and u in near(scene[1], s)
        if j != i - 1 or (u != s and not sees):
            return False
    return [unfounded(scene, s, i) for s, i in row] == [False] * (len(row) - 1) + [True]


def even(scene):
    """The deeds of an even wave."""
    ways = sorted((s, u) for s, u, _ in scene[6])
    lying = {(s, u): len(letters) for s, u, letters in scene[6]}
    deeds = []
    for s, u in ways:
        deeds += [("hear", u, s)] * lying[s, u]
    deeds += [("reckon", s) for s in range(scene[1][0])]
    deeds += [("send", s, u) for s, u in ways]
    deeds += [("hear", u, s) for s, u in ways]
    return tuple(deeds)


def all_behind(scene, deeds):
    model = Model(scene)
    for deed in deeds:
        model.do(deed)
    return model.scene()
