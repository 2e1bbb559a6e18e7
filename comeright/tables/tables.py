"""Tables: seats that look at one another's marks, and may move to others."""

from comeright.errors import NoSeat, NoStanding, NoTable
from comeright.tables.rising import RISING, WITHOUT

LEAST_SIZE = 2
MOST_SIZE = 9
MOST_HANDS = 6
MOST_LOOKS = 5
MOST_STANDINGS = 729
# A bit for each mark.
ALL_BITS = 512
# So many rows are worth a look at whether they are all alike.
MANY_ROWS = 16


def power(size, many):
    """Size so many times by itself."""
    told = 1
    for _ in range(many):
        told *= size
    return told


def are_looks(many, seat, thing):
    """Whether it is a row of other ones of so many seats, unlike, in any order."""
    if type(thing) is not tuple or len(thing) > MOST_LOOKS:
        return False
    for other in thing:
        if type(other) is not int or not 0 <= other < many or other == seat or thing.count(other) > 1:
            return False
    return True


def are_listed(rows, bits):
    """Whether each of a row of things is a rising row of marks, none of those that have a bit here."""
    try:
        for marks in rows:
            if type(marks) is not tuple:
                return False
            if marks:
                # Only numbers are looked up: a list among them would be an error of Python's own, a truth be found.
                for mark in marks:
                    if type(mark) is not int:
                        return False
                if RISING[marks] & bits:
                    return False
    except KeyError:
        return False
    return True


def are_whole(rows):
    """Whether there are no truths in rows that are alike to rising rows of marks."""
    # A truth is alike to 0 or 1: such marks stand in the first two places.
    if len(rows[0]) > 2 and len(rows[-1]) > 2:
        rows = [marks[:2] for marks in rows]
    return not [1 for marks in rows for mark in marks if type(mark) is not int]


def are_alike(rows):
    """Whether all of many things are like the first, which is a rising row of marks."""
    return rows[-1] == rows[0] and rows.count(rows[0]) == len(rows) and are_whole(rows)


def are_among(rows, well):
    """Whether each of a row of things is one of a few rows of marks."""
    for marks in rows:
        if marks not in well:
            return False
        if marks:
            # A truth is alike to 0 or 1.
            for mark in marks:
                if type(mark) is not int:
                    return False
    return True


def are_many_listed(rows, bits):
    """What are_listed tells of many things: often they are all alike."""
    return are_listed(rows[:1], bits) and (are_alike(rows) or are_listed(rows, bits))


def are_moves(size, alike, thing):
    """Whether it is a row of rising rows of marks, so many for each own mark, which is in none of its rows."""
    if type(thing) is not tuple or len(thing) != size * alike:
        return False
    # No mark is size or more. As views rise, so do their own marks.
    beyond = ALL_BITS - (1 << size)
    if alike == 1:
        return are_listed(thing, beyond) and not [1 for own, marks in enumerate(thing) if own in marks]
    for own in range(size):
        rows = thing[own * alike:own * alike + alike]
        if size in WITHOUT:
            well = are_among(rows, WITHOUT[size][own])
        elif alike < MANY_ROWS:
            well = are_listed(rows, beyond + (1 << own))
        else:
            well = are_many_listed(rows, beyond + (1 << own))
        if not well:
            return False
    return True


def is_size(thing):
    """Whether it is a number of marks."""
    return type(thing) is int and LEAST_SIZE <= thing <= MOST_SIZE


def is_table(thing):
    """Whether it is a table."""
    if type(thing) is not tuple or len(thing) != 2:
        return False
    size, seats = thing
    if not is_size(size) or type(seats) is not tuple or not 1 <= len(seats) <= MOST_HANDS:
        return False
    many = len(seats)
    # An exponent is written with a bound to be seen: there are at most six seats, and five looks.
    if size ** (many % 7) > MOST_STANDINGS:
        return False
    ahead = ()
    for seat, hand in enumerate(seats):
        if type(hand) is not tuple or len(hand) != 2:
            return False
        looks, moves = hand
        if not are_looks(many, seat, looks):
            return False
        alike = size ** (len(looks) % 6)
        # Often a seat has the same moves as the one ahead.
        if moves == ahead and len(moves) == size * alike and are_whole(moves):
            continue
        if not are_moves(size, alike, moves):
            return False
        ahead = moves
    return True


def need_table(table):
    """Refuse what is no table."""
    if not is_table(table):
        raise NoTable("no table")


def need_standing(table, standing):
    """Refuse what is no standing of what surely is a table."""
    if not stands_in(table, standing):
        raise NoStanding("no standing of this table")


def need_hand(table, seat, standing):
    """Refuse what is no table, then what is no seat of it, then what is no standing of it."""
    need_table(table)
    if type(seat) is not int or not 0 <= seat < len(table[1]):
        raise NoSeat(seat)
    need_standing(table, standing)


def stands_in(table, thing):
    """Whether it is a standing of what surely is a table."""
    size, seats = table
    if type(thing) is not tuple or len(thing) != len(seats):
        return False
    for mark in thing:
        if type(mark) is not int or not 0 <= mark < size:
            return False
    return True


def moves_at(table, seat, standing):
    """The moves of a seat at a standing of what surely is a table."""
    size, seats = table
    looks, rows = seats[seat]
    # The marks of a view are the figures of its number.
    at = standing[seat]
    for other in looks:
        at = at * size + standing[other]
    return rows[at]


def able_at(table, standing):
    """The rising list of seats that may move at a standing of what surely is a table."""
    return [seat for seat in range(len(standing)) if moves_at(table, seat, standing) != ()]


def all_rows(size, many):
    """The rising list of the rows of so many marks."""
    told = [()]
    for _ in range(many):
        told = [row + (mark,) for row in told for mark in range(size)]
    return told


def all_standings(table):
    """The rising list of the standings of what surely is a table."""
    size, seats = table
    return all_rows(size, len(seats))


def views_at(table, seat, columns):
    """The numbers of a seat's views at many standings, of which columns has the marks of each seat."""
    size, seats = table
    looks, _ = seats[seat]
    told = list(columns[seat])
    for other in looks:
        told = [at * size + mark for at, mark in zip(told, columns[other])]
    return told


def standings(table):
    """The rising row of the standings of a table."""
    need_table(table)
    return tuple(all_standings(table))


def is_standing(table, thing):
    """Whether it is a standing of a table."""
    need_table(table)
    return stands_in(table, thing)


def view(table, seat, standing):
    """The view of a seat at a standing: its own mark, then those of its looks."""
    need_hand(table, seat, standing)
    looks, _ = table[1][seat]
    return (standing[seat],) + tuple([standing[other] for other in looks])


def moves(table, seat, standing):
    """The rising row of marks to which a seat may move at a standing."""
    need_hand(table, seat, standing)
    return moves_at(table, seat, standing)


def able_seats(table, standing):
    """The rising row of seats that may move at a standing."""
    need_table(table)
    need_standing(table, standing)
    return tuple(able_at(table, standing))
