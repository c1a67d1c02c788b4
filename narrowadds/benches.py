"""Benches: shelves of named programs, with the edits that led to them."""

from narrowadds.bounds import MAX_EDITS
from narrowadds.edits import edited, has_name, program_named
from narrowadds.errors import (
    AddsError, BadMachine, NothingToRedo, NothingToUndo, NoVersion, TooManyEdits,
)
from narrowadds.kinds import is_below
from narrowadds.machines import machine_error
from narrowadds.tables import table_of


class Bench:
    """Named programs of one machine, that edits change; edits can be taken back, and done again."""

    def __init__(self, machine):
        error = machine_error(machine)
        if error is not None:
            raise BadMachine(error)
        self._machine = machine
        # All edits, those that were taken back behind those that stand, and the shelves ahead of and behind them.
        self._edits = ()
        self._shelves = ({},)
        self._standing = 0
        self._programs = self._shelves[0]
        self._tables = {}

    @property
    def machine(self):
        """The machine of all programs."""
        return self._machine

    @property
    def shelf(self):
        """The tuple of the pairs of names and programs, in order."""
        return tuple(self._programs.items())

    @property
    def version(self):
        """How many edits stand."""
        return self._standing

    @property
    def log(self):
        """The tuple of the edits that stand."""
        return self._edits[:self._standing]

    @property
    def made(self):
        """How many programs tables were made of."""
        return len(self._tables)

    def __len__(self):
        return len(self._programs)

    def __contains__(self, x):
        return has_name(self._programs, x)

    def __getitem__(self, at):
        return program_named(self._programs, at)

    def __iter__(self):
        return iter(self._programs)

    def __eq__(self, other):
        if not isinstance(other, Bench):
            return False
        return self._machine == other._machine and self._programs == other._programs

    def __ne__(self, other):
        return not self == other

    def keep(self, name, program):
        """Put program on the shelf under this name; return the version, as all edits do."""
        return self.take(("keep", name, program))

    def drop(self, name):
        """Take the name and its program off the shelf."""
        return self.take(("drop", name))

    def add(self, name, deed):
        """Put deed behind all deeds of the program with this name."""
        return self.take(("add", name, deed))

    def cut(self, name):
        """Take away the last deed of the program with this name."""
        return self.take(("cut", name))

    def batch(self, edits):
        """Do all of edits, tuples of a word and its arguments, as one edit, or none of them."""
        return self.take(("batch", edits))

    def take(self, edit):
        """Do an edit that is told as the tuple of its word and its arguments; return the version."""
        programs = edited(self._machine, self._programs, edit)
        if self._standing >= MAX_EDITS:
            raise TooManyEdits()
        shelves = self._shelves[:self._standing + 1] + (programs,)
        self._set(self.log + (edit,), shelves, self._standing + 1)
        return self._standing

    def _set(self, edits, shelves, standing):
        """Take on these edits, the shelves around them, and how many of them stand."""
        self._edits = edits
        self._shelves = shelves
        self._standing = standing
        self._programs = shelves[standing]

    def table(self, name):
        """Return the table of the program with this name."""
        return self._table_of(program_named(self._programs, name))

    def alike(self, one, other):
        """Return whether the programs with these names have one table."""
        programs = [program_named(self._programs, name) for name in (one, other)]
        tables = [self._table_of(program) for program in programs]
        return tables[0] == tables[1]

    def _table_of(self, program):
        """Return the table of program, made now or ahead."""
        if program not in self._tables:
            self._tables[program] = table_of(self._machine, program)
        return self._tables[program]

    def undo(self):
        """Take back the last edit that stands; return the version then."""
        if self._standing == 0:
            raise NothingToUndo()
        self._set(self._edits, self._shelves, self._standing - 1)
        return self._standing

    def redo(self):
        """Do again the edit that was taken back last; return the version then."""
        if self._standing == len(self._edits):
            raise NothingToRedo()
        self._set(self._edits, self._shelves, self._standing + 1)
        return self._standing

    def at(self, version):
        """Return the shelf when so many of the edits that stand now stood."""
        if not is_below(version, self._standing + 1):
            raise NoVersion(version)
        return tuple(self._shelves[version].items())

    def copy(self):
        """Return a bench that is as this one is, and goes its own way."""
        found = Bench(self._machine)
        found._set(self._edits, self._shelves, self._standing)
        found._tables = {program: table for program, table in self._tables.items()}
        return found

    def attempt(self, work):
        """Return work of this bench; if it raises an error of this package go back to where the bench was ahead."""
        edits, shelves, standing = self._edits, self._shelves, self._standing
        try:
            return work(self)
        except AddsError:
            self._set(edits, shelves, standing)
            raise
