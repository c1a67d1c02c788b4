"""Tables of which some rows are told, and the others are to be found."""

from narrowadds.counts import filled_count
from narrowadds.errors import Barred
from narrowadds.integers import inverse, power_of
from narrowadds.machines import part_of, primes_of
from narrowadds.papers import entry_holds, entry_paper, is_among, room_holds, room_paper
from narrowadds.rooms import rooms, spans
from narrowadds.squares import determinant, pivots, square_of
from narrowadds.tables import entry_error, is_row


def wish_error(machine, value):
    """Return what is wrong with value as a wish of machine, None if it is one."""
    many = len(machine[0])
    if not is_row(value, many):
        return "form"
    for i, row in enumerate(value):
        if row is not None and not is_row(row, many):
            return ("row", i)
    return entry_error(machine, value)


def free_registers(wish):
    """Return the list of the registers whose rows are not told."""
    return [i for i, row in enumerate(wish) if row is None]


def granted(machine, wish):
    """Return a table that a program of machine does, and that has the told rows of wish; else raise Barred(paper)."""
    paper = wish_paper(machine, wish)
    if paper is not None:
        raise Barred(paper)
    free = free_registers(wish)
    rows = [[0] * len(wish) if row is None else list(row) for row in wish]
    for p in primes_of(machine):
        fill_up(machine, p, rows, free)
        for room, _, last in spans(machine, p):
            set_right(machine, p, rows, [i for i in room if i in free], room, last)
    return tuple([tuple(row) for row in rows])


def fill_up(machine, p, rows, free):
    """Put entries into the free rows by which the square of each room of level 0 can be undone modulo p."""
    for room in rooms(machine, p, 0):
        taken = pivots(told_square(rows, room, free), p)
        own = [i for i in room if i in free]
        left = [j for at, j in enumerate(room) if at not in taken]
        for i, j in zip(own, left):
            rows[i][j] = (rows[i][j] + part_of(machine, p, i)) % machine[0][i]


def set_right(machine, p, rows, own, room, last):
    """Multiply one of the free rows own so that the mark of room is 1 at the level last; do nothing if there are none.

    All marks at lower levels are 1 and stay so, as does all that other primes see.
    """
    if not own:
        return
    i = own[0]
    power = power_of(p, last + 1)
    less = inverse(determinant(square_of(rows, room)), power) - 1
    times = 1 + less * part_of(machine, p, i)
    rows[i] = [times * entry % machine[0][i] for entry in rows[i]]


def told_square(rows, room, free):
    """Return the told ones of rows in room, of each the entries for the registers of room."""
    return [[rows[i][j] for j in room] for i in room if i not in free]


def wish_paper(machine, wish):
    """Return a paper of wish, None if there is none."""
    paper = entry_paper(machine, wish)
    if paper is None:
        paper = rows_paper(machine, wish)
    if paper is None:
        paper = room_paper(machine, wish)
    return paper


def rows_paper(machine, wish):
    """Return a paper about told rows that hang on one another in a room, None if there is none."""
    for p in primes_of(machine):
        for room in rooms(machine, p, 0):
            if is_dependent(wish, p, room):
                return ("rows", p, room)
    return None


def is_dependent(wish, p, room):
    """Return whether the told rows of room, in room, are dependent modulo p."""
    told = told_square(wish, room, free_registers(wish))
    return len(pivots(told, p)) < len(told)


def wish_holds(machine, wish, value):
    """Return whether value, any value, is a paper of wish."""
    if is_row(value, 3) and value[0] == "entry":
        return entry_holds(machine, wish, value[1], value[2])
    if is_row(value, 3) and value[0] == "rows":
        return rows_holds(machine, wish, value[1], value[2])
    if is_row(value, 4) and value[0] == "room":
        return room_holds(machine, wish, value[1], value[2], value[3])
    return False


def rows_holds(machine, wish, p, room):
    """Return whether ("rows", p, room), for any p and room, is a paper of wish."""
    if p not in primes_of(machine) or not is_among(rooms(machine, p, 0), room):
        return False
    return is_dependent(wish, p, room)


def wish_count(machine, wish):
    """Return how many tables that programs of machine do have the told rows of wish."""
    if wish_paper(machine, wish) is not None:
        return 0
    return filled_count(machine, free_registers(wish))
