"""Programs written from tables."""

from narrowadds.barring import barring_paper
from narrowadds.errors import Barred
from narrowadds.integers import how_often, inverse, power_of
from narrowadds.machines import primes_of
from narrowadds.parts import Part, program_for
from narrowadds.programs import backward
from narrowadds.rooms import is_near, levels_by, rooms_by


def written(machine, table):
    """Return a program whose table is table; raise Barred(paper) if there is none."""
    paper = barring_paper(machine, table)
    if paper is not None:
        raise Barred(paper)
    found = []
    for p in primes_of(machine):
        part = Part(machine, p, table)
        bring_to_still(machine, part)
        # What leads the table on to nothing left, led back, leads to the table.
        found.extend(backward(program_for(machine, part)))
    return tuple(found)


def bring_to_still(machine, part):
    """Add rows of part to one another until the table still is left."""
    for room in rooms_by(machine, part.p, part.roads, 0):
        clear_room(part, room)
    deepest = max([how_often(part.p, power) for power in part.powers.values()])
    for t in levels_by(part.roads):
        if 0 < t < deepest:
            for room in rooms_by(machine, part.p, part.roads, t):
                gather(part, room, t)


def clear_room(part, room):
    """Make the columns of the registers of a room of level 0 still, but for the last one's own entry."""
    for at, i in enumerate(room):
        others = room[at + 1:]
        if others:
            make_one(part, i, others)
        clear_column(part, i)


def make_one(part, i, others):
    """Make 1 of the entry (i, i) by rows of others; some entry of these or i in the column i can be undone."""
    if part.rows[i][i] == 1:
        return
    ready = [j for j in others if part.rows[j][i] % part.p != 0]
    if not ready:
        part.give(i, others[0], 1)
        ready = [others[0]]
    j = ready[0]
    part.give(j, i, (1 - part.rows[i][i]) * inverse(part.rows[j][i], part.powers[i]))


def clear_column(part, j):
    """Make 0 of all entries in the column j but the one in the row j, which can be undone."""
    corner = part.rows[j][j]
    for i in part.registers:
        if i != j and part.rows[i][j] != 0:
            part.give(j, i, -part.rows[i][j] * inverse(corner, part.powers[i]))


def gather(part, room, t):
    """Bring together what is left in the corners of a room of level t into one of them, where nothing is left of it.

    Nothing but these corners is left; all of them are 1 modulo p as often as t times.
    """
    root = min([(part.powers[i], i) for i in room])[1]
    for i, onward in ways_to(part, room, root, t):
        if part.rows[i][i] != 1:
            bring_corner(part, i, onward)


def ways_to(part, room, root, t):
    """Return pairs (register, the next one on its way to root) of all of room but root, the farthest ones first.

    The round trip of each pair is at most t.
    """
    found = []
    reached = [root]
    left = [i for i in room if i != root]
    while left:
        pairs = [(i, j) for i in left for j in reached if is_near(part.roads, i, j, t)]
        i, j = pairs[0]
        found.append((i, j))
        reached.append(i)
        left.remove(i)
    return found[::-1]


def bring_corner(part, x, y):
    """Multiply the row of y by what stands in the corner of x, and make 1 of this; both are 1 but for their corners."""
    times = inverse(part.rows[x][x], part.powers[x])
    there = power_of(part.p, part.climb_of(x, y))
    back = (times - 1) // there
    # In all this multiplies x by times, which is 1 and there times back, and y by what undoes it.
    part.give(x, y, there)
    part.give(y, x, back)
    part.give(x, y, -there * inverse(times, part.powers[y]))
    part.give(y, x, -back * times)
