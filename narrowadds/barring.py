"""Tables that programs do, and papers that tell why none does."""

from narrowadds.papers import entry_holds, entry_paper, room_holds, room_paper
from narrowadds.tables import is_row


def is_done(machine, table):
    """Return whether some program of machine does table."""
    return barring_paper(machine, table) is None


def barring_paper(machine, table):
    """Return a paper of machine and table, None if there is none."""
    paper = entry_paper(machine, table)
    if paper is None:
        paper = room_paper(machine, table)
    return paper


def paper_holds(machine, table, value):
    """Return whether value, any value, is a paper of machine and table."""
    if is_row(value, 3) and value[0] == "entry":
        return entry_holds(machine, table, value[1], value[2])
    if is_row(value, 4) and value[0] == "room":
        return room_holds(machine, table, value[1], value[2], value[3])
    return False
