"""Papers of tables and of wishes by the words of the document, and values that are nearly papers."""

from itertools import combinations

from narrowadds.machines import depth, primes_of
from tests.machinery import all_wires, determinant_by_words, least_factor_by_words, rooms_by_words, trips_by_words


def entry_papers(machine, rows):
    return [("entry", i, j) for j, i in all_wires(len(machine[0]))
            if rows[i] is not None and rows[i][j] % least_factor_by_words(machine, j, i) != 0]


def room_papers(machine, rows):
    """Return all papers about marks; all registers of their rooms have told rows."""
    found = []
    for p in primes_of(machine):
        trips = trips_by_words(machine, p)
        depths = [depth(machine, p, i) for i in range(len(machine[0]))]
        determinants = {}
        for t in range(max(depths)):
            for room in rooms_by_words(machine, p, trips, t):
                if min(depths[i] for i in room) > t and all(rows[i] is not None for i in room):
                    if room not in determinants:
                        determinants[room] = determinant_by_words([[rows[i][j] for j in room] for i in room])
                    if determinants[room] % p ** (t + 1) != 1:
                        found.append(("room", p, t, room))
    return found


def rows_papers(machine, rows):
    """Return all papers about told rows that hang on one another: all squares of their entries are noughts modulo p."""
    found = []
    for p in primes_of(machine):
        for room in rooms_by_words(machine, p, trips_by_words(machine, p), 0):
            told = [[rows[i][j] % p for j in room] for i in room if rows[i] is not None]
            squares = [[[row[j] for j in columns] for row in told]
                       for columns in combinations(range(len(room)), len(told))]
            if told and all(determinant_by_words(square) % p == 0 for square in squares):
                found.append(("rows", p, room))
    return found


def table_papers(machine, table):
    """Return all papers of a table."""
    return entry_papers(machine, table) + room_papers(machine, table)


def wish_papers(machine, wish):
    """Return all papers of a wish."""
    return entry_papers(machine, wish) + rows_papers(machine, wish) + room_papers(machine, wish)


def turned_papers(paper):
    """Return values that are like paper but for one thing; some of them may be papers, too."""
    found = [list(paper), paper[:-1], paper + (0,), paper + (None,), (paper,), paper[::-1], dict(enumerate(paper)),
             str(paper), repr(paper), paper[1:], ("",) + paper, [*paper[:-1], list(paper[-1:])]]
    for at, part in enumerate(paper):
        for other in turned_parts(part):
            found.append(paper[:at] + (other,) + paper[at + 1:])
    return found


def turned_parts(part):
    """Return values that are nearly what stands in a paper."""
    found = [None, True, False, -1, 0, 1, 2, 3, 5, 6, 7, 99, 101, 10 ** 399, -(10 ** 399), "", "0", "2", "entry",
             "room", "rows", "Room", (), [], {}, (0,), (0, 1), (1, 0), (0, 0), (True,), (0, True), (False, 1), [0],
             [0, 1], {0: 1}, ((0,),), ((0, 1),), (0, None), ("0",)]
    if isinstance(part, int):
        found += [part + 1, part - 1, -part, part + 10 ** 30, str(part), (part,), [part], part * 2, part ** 2]
    if isinstance(part, tuple):
        found += [list(part), part[::-1], part[1:], part[:-1], part + (part[-1] + 1,), part + part[-1:], (part,),
                  dict(enumerate(part)), tuple(bool(one) if one < 2 else one for one in part), part[:-1] + (10 ** 30,),
                  part[:-1] + (-1,), part[:-1] + (None,), part[:-1] + ((part[-1],),), part[:-1] + (str(part[-1]),)]
    return found
