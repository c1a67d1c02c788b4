"""Contents brought to rest, as one prime sees them: to the same, from all that are led to one another.

Here part has rows of one integer: what a register holds, modulo what of its size belongs to the prime.
"""

from narrowadds.integers import how_often, inverse, power_of
from narrowadds.rooms import rooms_by
from narrowadds.shares import is_fed


def settle(machine, part, factors, shared, given):
    """Bring part to rest; factors are the least factors, shared and given the shares and the gives of the contents.

    Rooms of level 0 that are fed come to hold noughts; of the others those of several registers their share in the
    first one and noughts, those of one register its rest modulo its give.
    """
    p = part.p
    level = rooms_by(machine, p, part.roads, 0)
    fed = [room for room in level if is_fed(p, room, factors, shared)]
    own = [room for room in level if room not in fed]
    for room in own:
        if len(room) > 1:
            gather_share(part, room, power_of(p, how_often(p, shared[room[0]])))
    for room in fed:
        for i in room:
            bring(part, i, 0)
    for room in own:
        if len(room) == 1:
            reduce_to_rest(part, room[0], power_of(p, how_often(p, given[room[0]])))


def gather_share(part, room, share):
    """Make the first register of room hold share, the others nought; some register of room holds it but for a unit."""
    i = room[0]
    due = share % part.powers[i]
    if part.rows[i][0] != due and source_for(part, i, due) is None:
        # No other register of the room has the share itself.
        part.give(i, room[1], 1)
    bring(part, i, due)
    for j in room[1:]:
        bring(part, j, 0)


def bring(part, i, due):
    """Make the register i hold due by what another register holds, if it does not yet."""
    if part.rows[i][0] != due:
        bring_from(part, source_for(part, i, due), i, due)


def source_for(part, i, due):
    """Return a register by which i, that holds something else, can be made to hold due, None if there is none."""
    p = part.p
    often = how_often(p, due - part.rows[i][0])
    for j in part.registers:
        if (j, i) in part.roads and part.rows[j][0] != 0:
            if part.climb_of(j, i) + how_often(p, part.rows[j][0]) <= often:
                return j
    return None


def bring_from(part, j, i, due):
    """Make the register i hold due by what the register j holds."""
    share = power_of(part.p, how_often(part.p, part.rows[j][0]))
    unit = part.rows[j][0] // share
    part.give(j, i, (due - part.rows[i][0]) // share * inverse(unit, part.powers[i]))


def reduce_to_rest(part, i, give):
    """Bring what the register i holds, a room by itself that is not fed, to its rest modulo give."""
    due = part.rows[i][0] % give
    if part.rows[i][0] == due:
        return
    if source_for(part, i, due) is not None:
        bring(part, i, due)
    else:
        bring_round(part, i, due)


def bring_round(part, i, due):
    """Make the register i hold due by a round trip of what it holds, through a register that is left as it was."""
    p = part.p
    often = how_often(p, due - part.rows[i][0]) - how_often(p, part.rows[i][0])
    both_ways = [k for k in part.registers if (i, k) in part.roads and (k, i) in part.roads]
    j = [k for k in both_ways if part.climb_of(i, k) + part.climb_of(k, i) <= often][0]
    kept = part.rows[j][0]
    part.give(i, j, power_of(p, part.climb_of(i, j)))
    bring_from(part, j, i, due)
    bring_from(part, i, j, kept)
