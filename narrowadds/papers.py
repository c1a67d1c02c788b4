"""Papers about entries and about rooms: why no program does a table, or none that has the told rows of a wish.

Here rows is a table or a wish, in which None stands for the free rows: what is told of a table is told of all of these.
"""

from narrowadds.kinds import is_an_integer, is_below
from narrowadds.machines import primes_of
from narrowadds.roads import least_factor, least_factors
from narrowadds.rooms import mark, spans, telling


def entry_paper(machine, rows):
    """Return a paper about an entry of rows that is no multiple of the least factor, None if there is none."""
    factors = least_factors(machine)
    for j, i in factors:
        if rows[i] is not None and rows[i][j] % factors[j, i] != 0:
            return ("entry", i, j)
    return None


def room_paper(machine, rows):
    """Return a paper about a telling room whose mark is not 1, None if there is none."""
    for p in primes_of(machine):
        for room, _, last in spans(machine, p):
            # A mark that is 1 on the last of these levels is so on all of them.
            if is_told(rows, room) and mark(machine, rows, p, last, room) != 1:
                return ("room", p, last, room)
    return None


def is_told(rows, room):
    """Return whether no register of room has a free row."""
    return all([rows[i] is not None for i in room])


def entry_holds(machine, rows, i, j):
    """Return whether ("entry", i, j), for any i and j, is a paper."""
    many = len(machine[0])
    if not is_below(i, many) or not is_below(j, many) or i == j or rows[i] is None:
        return False
    return rows[i][j] % least_factor(machine, j, i) != 0


def room_holds(machine, rows, p, t, room):
    """Return whether ("room", p, t, room), for any p, t and room, is a paper."""
    if p not in primes_of(machine) or not is_an_integer(t) or t < 0:
        return False
    if not is_among(telling(machine, p, t), room) or not is_told(rows, room):
        return False
    return mark(machine, rows, p, t, room) != 1


def is_among(found, value):
    """Return whether value is one of the rooms found."""
    # True in the place of 1 makes no tuple unlike.
    return isinstance(value, tuple) and all([is_an_integer(item) for item in value]) and value in found
