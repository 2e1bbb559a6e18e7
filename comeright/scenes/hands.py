"""Hands: what stands in a scene, in lists, for deeds to change."""

from comeright.plans.makers import row_made, telling
from comeright.plans.plans import wide
from comeright.webs.webs import all_beside

MANY_TIMES = 100


class Hands:
    """What stands in a scene. Deeds change it, so that a run need not make a scene anew for each of them.

    What stands in rows, copies and roads may be anything: only a reckon asks what it is.
    """

    def __init__(self, scene):
        plans, web, words, goes, rows, copies, roads = scene
        self.plans = plans
        self.many = web[0]
        self.wide = wide(plans)
        self.words = list(words)
        self.goes = list(goes)
        self.rows = list(rows)
        self.tellings = [None] * len(plans)
        self.asked = [0] * len(plans)
        # Of each seat what its last reckon went by, and the row that it made.
        self.reckons = [(None, None)] * web[0]
        self.tie(web[1], copies, roads)

    def tie(self, ties, copies, roads):
        """Have these ties, copies and roads."""
        self.ties = ties
        self.copies = list(copies)
        self.roads = list(roads)
        self.near = all_beside((self.many, ties))
        # Where in copies and in roads the entries of a seat begin.
        self.starts = []
        start = 0
        for others in self.near:
            self.starts.append(start)
            start += len(others)

    def is_seat(self, thing):
        """Whether it is a seat."""
        return type(thing) is int and 0 <= thing < self.many

    def are_near(self, thing, other):
        """Whether both are seats that have a tie."""
        if type(thing) is not int or type(other) is not int or not 0 <= thing < self.many:
            return False
        return other in self.near[thing]

    def place(self, seat, other):
        """Where in copies, and in roads, the entry of these neighbours is."""
        return self.starts[seat] + self.near[seat].index(other)

    def letters(self, seat, other):
        """The letters on the road from a seat to a neighbour."""
        return self.roads[self.starts[seat] + self.near[seat].index(other)][2]

    def held(self, seat):
        """What a seat has of its neighbours, as they rise."""
        start = self.starts[seat]
        return [copy for _, _, copy in self.copies[start:start + len(self.near[seat])]]

    def told(self, seat):
        """What a seat tells."""
        _, nexts = self.plans[self.goes[seat]]
        return self.rows[seat][len(nexts)]

    def reckoned(self, seat):
        """The row that a seat's reckon makes."""
        by = (self.goes[seat], self.words[seat], self.held(seat))
        known, row = self.reckons[seat]
        # Often nothing has come to a seat since its last reckon.
        if by != known:
            row = self.made(by[0], by[1], by[2])
            self.reckons[seat] = (by, row)
        return row

    def made(self, number, word, held):
        """The row that a plan makes by a word and by what a seat has of its neighbours."""
        # A plan is made ready where it is asked for again: the first time nobody knows whether it will be.
        if self.asked[number] < 2:
            self.tellings[number] = telling(self.plans[number], MANY_TIMES if self.asked[number] == 1 else 1)
            self.asked[number] += 1
        tell, parts = self.tellings[number]
        return row_made(tell, parts, self.wide, word, held)

    def web(self):
        """The web of the ties."""
        return (self.many, self.ties)

    def as_scene(self):
        """The scene in which all this stands."""
        return (
            self.plans, (self.many, self.ties), tuple(self.words), tuple(self.goes), tuple(self.rows),
            tuple(self.copies), tuple(self.roads),
        )
