"""Languages that are told by their programs."""

from keptbudgets.codes import first_clash, is_word
from keptbudgets.errors import Clash, InvalidTable, NoProgram
from keptbudgets.kinds import is_bit, is_integer, is_sequence
from keptbudgets.runs import go_on

MOST_STEPS = 200


class Table:
    """A language whose entries tell each program, what it writes and when, and its end."""

    def __init__(self, entries):
        if not _is_table(entries):
            raise InvalidTable(entries)
        words = [entry[0] for entry in entries]
        clash = first_clash(words)
        if clash is not None:
            earlier, later = clash
            raise Clash(words[earlier], words[later])
        self._writes = {}
        self._ends = {}
        for program, writes, end in entries:
            self._writes[program] = tuple([(bit, steps) for bit, steps in writes])
            self._ends[program] = end

    def programs(self, length):
        """All programs of this length, ascending."""
        return tuple(sorted([program for program in self._ends if len(program) == length]))

    def is_program(self, program):
        """Whether any value is a program of this language."""
        return is_word(program) and program in self._ends

    def begin(self, program, given):
        """A run of the program; the given word plays no part."""
        if not self.is_program(program):
            raise NoProgram(program)
        return TableRun(self._writes[program], self._ends[program])


class TableRun:
    """A run of a program of a table: which bits are due, and how long it has waited."""

    def __init__(self, writes, end):
        self.steps = 0
        self.written = ""
        self.is_ended = False
        self._writes = writes
        self._end = end
        self._waited = 0

    def step(self):
        """Does one step; returns the bit that it wrote, "end", or None."""
        if self.is_ended:
            return "end"
        self.steps += 1
        self._waited += 1
        place = len(self.written)
        if place < len(self._writes):
            bit, due = self._writes[place]
            return self._write(bit) if self._waited == due else None
        self.is_ended = self._waited == self._end
        return "end" if self.is_ended else None

    def go(self, many):
        """Does up to many steps, as long as it has not ended; returns how many."""
        return go_on(self, many)

    def _write(self, bit):
        self.written += str(bit)
        self._waited = 0
        return bit


def _is_table(entries):
    return is_sequence(entries) and all([_is_entry(entry) for entry in entries])


def _is_entry(entry):
    if not is_sequence(entry) or len(entry) != 3:
        return False
    program, writes, end = entry
    return is_word(program) and _are_writes(writes) and (end is None or _is_many_steps(end))


def _are_writes(writes):
    return is_sequence(writes) and all([_is_write(write) for write in writes])


def _is_write(write):
    return is_sequence(write) and len(write) == 2 and is_bit(write[0]) and _is_many_steps(write[1])


def _is_many_steps(value):
    return is_integer(value) and 1 <= value <= MOST_STEPS
