"""Languages that are made of two others."""

from keptbudgets.codes import is_word
from keptbudgets.errors import NoProgram
from keptbudgets.runs import go_on


class Both:
    """The programs of one with a 0 ahead, and those of other with a 1 ahead."""

    def __init__(self, one, other):
        self.one = one
        self.other = other

    def programs(self, length):
        """All programs of this length, ascending."""
        if length == 0:
            return ()
        lower = ["0" + program for program in self.one.programs(length - 1)]
        upper = ["1" + program for program in self.other.programs(length - 1)]
        return (*lower, *upper)

    def is_program(self, program):
        """Whether any value is a program of this language."""
        return is_word(program) and _end_in(self, program, 0) == len(program)

    def begin(self, program, given):
        """A run of the program behind the first bit, in the language that this bit tells."""
        if not self.is_program(program):
            raise NoProgram(program)
        return _side_of(self, program[0]).begin(program[1:], given)


class Pair:
    """A program of one, with a program of other behind it."""

    def __init__(self, one, other):
        self.one = one
        self.other = other

    def programs(self, length):
        """All programs of this length, ascending."""
        found = []
        for many in range(length + 1):
            firsts = self.one.programs(many)
            # The other language need not be gone through where nothing stands ahead of it.
            seconds = self.other.programs(length - many) if len(firsts) > 0 else ()
            found.extend([first + second for first in firsts for second in seconds])
        return tuple(sorted(found))

    def is_program(self, program):
        """Whether any value is a program of this language."""
        return is_word(program) and _end_in(self, program, 0) == len(program)

    def begin(self, program, given):
        """A run of the first program, and then of the second one."""
        first, second = cut_pair(self, program)
        return PairRun(self.one.begin(first, given), self.other.begin(second, given))


class PairRun:
    """A run that does the steps of one run, and then those of another one."""

    def __init__(self, first, second):
        self.steps = 0
        self.written = ""
        self.is_ended = False
        # A run of a pair is taken apart, so that a step takes as long however deep the pairs stand.
        self.parts = (*_parts_of(first), *_parts_of(second))
        self.at = 0

    def step(self):
        """Does one step; returns the bit that it wrote, "end", or None."""
        if self.is_ended:
            return "end"
        self.steps += 1
        told = self.parts[self.at].step()
        if told == "end":
            self.at += 1
            self.is_ended = self.at == len(self.parts)
            return "end" if self.is_ended else None
        if told is not None:
            self.written += str(told)
        return told

    def go(self, many):
        """Does up to many steps, as long as it has not ended; returns how many."""
        return go_on(self, many)


def cut_pair(pair, program):
    """The two programs that a program of a Pair is made of."""
    if not pair.is_program(program):
        raise NoProgram(program)
    end = _end_in(pair.one, program, 0)
    return (program[:end], program[end:])


def _parts_of(run):
    return run.parts if isinstance(run, PairRun) else (run,)


def _side_of(both, sign):
    return both.one if sign == "0" else both.other


def _end_in(language, word, start):
    """The place behind the program of the language that begins at this place of a word, or None.

    Since no program begins another one, there is at most one; so a word is gone along once,
    however many pairs stand inside one another.
    """
    if isinstance(language, Both):
        return _end_in(_side_of(language, word[start]), word, start + 1) if start < len(word) else None
    if isinstance(language, Pair):
        middle = _end_in(language.one, word, start)
        return None if middle is None else _end_in(language.other, word, middle)
    for end in range(start, len(word) + 1):
        if language.is_program(word[start:end]):
            return end
    return None
