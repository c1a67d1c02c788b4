"""How many tables there are that can be undone, and how many of them programs do."""

from narrowadds.integers import power_of
from narrowadds.machines import depth, primes_of
from narrowadds.roads import least_roads
from narrowadds.rooms import rooms, spans
from narrowadds.tables import layers


def undone_count(machine):
    """Return how many tables of machine can be undone."""
    found = 1
    for p in primes_of(machine):
        depths = [depth(machine, p, i) for i in range(len(machine[0]))]
        for one in depths:
            for other in depths:
                if one != other:
                    found *= power_of(p, min(one, other))
        for layer in layers(machine, p):
            found *= square_count(p, depths[layer[0]], len(layer))
    return found


def square_count(p, e, many):
    """Return how many squares of so many rows, over remainders modulo p as often as e times, can be undone."""
    whole = power_of(p, many)
    found = power_of(p, many * many * (e - 1))
    for k in range(many):
        found *= whole - power_of(p, k)
    return found


def table_count(machine):
    """Return how many tables programs of machine do."""
    return filled_count(machine, list(range(len(machine[0]))))


def filled_count(machine, free):
    """Return how many tables programs do whose rows but those of the registers of free are told, and bar nothing."""
    found = 1
    for p in primes_of(machine):
        found *= filled_count_for(machine, p, free)
    return found


def filled_count_for(machine, p, free):
    """Return how many such tables there are as the prime p sees them."""
    roads = least_roads(machine, p)
    found = 1
    for room in rooms(machine, p, 0):
        own = [i for i in room if i in free]
        e = depth(machine, p, room[0])
        found *= square_count(p, e, len(own))
        for i in own:
            for j in range(len(machine[0])):
                if j not in own and (j, i) in roads:
                    found *= power_of(p, max(0, e - roads[j, i][0]))
    for room, first, last in spans(machine, p):
        if any([i in free for i in room]):
            found //= marks_count(p, first, last)
    return found


def marks_count(p, first, last):
    """Return how many marks a room can have, at the level last, that are 1 ahead of the level first."""
    if first == 0:
        return (p - 1) * power_of(p, last)
    return power_of(p, last - first + 1)
