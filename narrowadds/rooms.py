"""Rooms of registers between which little is lost there and back, and marks of tables in them."""

from narrowadds.integers import power_of
from narrowadds.machines import depth
from narrowadds.roads import climb, least_roads
from narrowadds.squares import determinant, square_of


def round_trip(machine, p, i, j):
    """Return the least climbs from i to j and from j to i together, None if there are not both."""
    there, back = climb(machine, p, i, j), climb(machine, p, j, i)
    if there is None or back is None:
        return None
    return there + back


def rooms(machine, p, t):
    """Return the ascending tuple of the rooms of level t."""
    roads = least_roads(machine, p)
    found = []
    for i in range(len(machine[0])):
        if depth(machine, p, i) > 0:
            near = [room for room in found if any([is_near(roads, i, j, t) for j in room])]
            far = [room for room in found if room not in near]
            found = far + [tuple(sorted([i] + [j for room in near for j in room]))]
    return tuple(sorted(found))


def is_near(roads, i, j, t):
    """Return whether the round trip of i and j is at most t; roads tells the least roads."""
    return (i, j) in roads and (j, i) in roads and roads[i, j][0] + roads[j, i][0] <= t


def telling(machine, p, t):
    """Return the ascending tuple of the rooms of level t whose registers all have a depth above t."""
    return tuple([room for room in rooms(machine, p, t) if all([depth(machine, p, i) > t for i in room])])


def mark(machine, table, p, t, room):
    """Return the determinant of the entries of table in room, modulo p as often as t + 1 times."""
    return determinant(square_of(table, room)) % power_of(p, t + 1)
