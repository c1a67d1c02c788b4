"""Rooms of registers between which little is lost there and back, and marks of tables in them."""

from narrowadds.integers import power_of
from narrowadds.machines import depth
from narrowadds.roads import climb, least_roads
from narrowadds.squares import determinant, square_of


def round_trip(machine, p, i, j):
    """Return the least climbs from i to j and from j to i together, None if there are not both."""
    there, back = climb(machine, p, i, j), climb(machine, p, j, i)
    if there is None or back is None:
        return None
    return there + back


def rooms(machine, p, t):
    """Return the ascending tuple of the rooms of level t."""
    return rooms_by(machine, p, least_roads(machine, p), t)


def rooms_by(machine, p, roads, t):
    """Return the ascending tuple of the rooms of level t; roads tells the least roads for p."""
    found = []
    for i in range(len(machine[0])):
        if depth(machine, p, i) > 0:
            near = [room for room in found if any([is_near(roads, i, j, t) for j in room])]
            far = [room for room in found if room not in near]
            found = far + [tuple(sorted([i] + [j for room in near for j in room]))]
    return tuple(sorted(found))


def is_near(roads, i, j, t):
    """Return whether the round trip of i and j is at most t; roads tells the least roads."""
    return (i, j) in roads and (j, i) in roads and roads[i, j][0] + roads[j, i][0] <= t


def telling(machine, p, t):
    """Return the ascending tuple of the rooms of level t whose registers all have a depth above t."""
    return tuple([room for room in rooms(machine, p, t) if least_depth(machine, p, room) > t])


def least_depth(machine, p, room):
    """Return the least depth of the registers of room."""
    return min([depth(machine, p, i) for i in room])


def mark(machine, table, p, t, room):
    """Return the determinant of the entries of table in room, modulo p as often as t + 1 times."""
    return determinant(square_of(table, room)) % power_of(p, t + 1)


def levels_by(roads):
    """Return the ascending list of 0 and of all round trips: on no other level a room is new."""
    trips = [roads[i, j][0] + roads[j, i][0] for i, j in roads if i < j and (j, i) in roads]
    return sorted(set([0] + trips))


def spans(machine, p):
    """Return a list of (room, first, last): each room that tells, and that it does from level first to level last.

    The lower levels come first. A room that tells on may come anew with a level on which another room is new.
    """
    roads = least_roads(machine, p)
    levels = levels_by(roads)
    found = []
    for at, first in enumerate(levels):
        for room in rooms_by(machine, p, roads, first):
            last = least_depth(machine, p, room) - 1
            if at + 1 < len(levels):
                last = min(last, levels[at + 1] - 1)
            if last >= first:
                found.append((room, first, last))
    return found
