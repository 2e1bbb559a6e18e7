"""Nets: the standings of a case by their numbers, as they rise, and which of them come next to which."""

from comeright.tables.tables import all_standings, power, views_at


def shifts_of(table):
    """For each standing a row: for each seat the list of what its moves add to the number of the standing."""
    size, seats = table
    standings = all_standings(table)
    columns = list(zip(*standings))
    told = []
    for seat, (_, rows) in enumerate(seats):
        weight = power(size, len(seats) - 1 - seat)
        alike = len(rows) // size
        # As views rise, so do their own marks: each of them has as many views.
        by_view = [[(mark - at // alike) * weight for mark in marks] for at, marks in enumerate(rows)]
        told.append([by_view[at] for at in views_at(table, seat, columns)])
    return list(zip(*told))


def many_nexts(shifts, movers):
    """How many nexts a standing has, by what its seats' moves add."""
    if movers in ("one", "turn"):
        return sum([len(moves) for moves in shifts])
    told = 1
    for moves in shifts:
        if movers == "some":
            told *= 1 + len(moves)
        elif len(moves) > 0:
            told *= len(moves)
    if movers == "some":
        return told - 1
    return told if [1 for moves in shifts if len(moves) > 0] else 0


def next_numbers(number, shifts, movers):
    """The numbers of a standing's nexts, by what its seats' moves add."""
    if movers in ("one", "turn"):
        return [number + shift for moves in shifts for shift in moves]
    told = [number]
    for moves in shifts:
        if movers == "some":
            told = told + [made + shift for made in told for shift in moves]
        elif len(moves) > 0:
            told = [made + shift for made in told for shift in moves]
    # Where nobody is able there is the standing itself alone, which is no next; by some it always stands ahead.
    return told[1:] if movers == "some" or told == [number] else told


class Net:
    """The standings of what surely is a case, by numbers: what each one is, and which come next.

    shifts has for each what shifts_of tells of it, onward the numbers of its nexts.
    """

    def __init__(self, case, shifts):
        table, right, movers = case
        self.table = table
        self.movers = movers
        self.standings = all_standings(table)
        self.number_of = {standing: number for number, standing in enumerate(self.standings)}
        self.shifts = shifts
        self.onward = [next_numbers(number, row, movers) for number, row in enumerate(shifts)]
        self.wrong = [True] * len(self.standings)
        for standing in right:
            self.wrong[self.number_of[standing]] = False

    def all_wrong(self):
        """The rising list of the numbers of wrong standings."""
        return [number for number, is_wrong in enumerate(self.wrong) if is_wrong]

    def wrong_nexts(self, number):
        """The numbers of a standing's nexts that are wrong."""
        return [later for later in self.onward[number] if self.wrong[later]]

    def wrong_before(self):
        """For each standing the numbers of the wrong ones that it comes next to."""
        told = [[] for _ in self.standings]
        for number in self.all_wrong():
            for later in self.onward[number]:
                told[later].append(number)
        return told
