"""A small language whose programs write out loops, and copies of what they wrote."""

from keptbudgets.blocks import blocks_of, is_block, signs_of
from keptbudgets.errors import NoProgram
from keptbudgets.runs import go_on


class Reels:
    """The language of reels."""

    SIGNS = ".01[+=~*"
    CLOSERS = ".*"

    def programs(self, length):
        """All programs of this length, ascending."""
        return blocks_of(self, length)

    def is_program(self, program):
        """Whether any value is a program of this language."""
        return is_block(self, program)

    def begin(self, program, given):
        """A run of the program; the given word plays no part."""
        if not self.is_program(program):
            raise NoProgram(program)
        return ReelsRun(signs_of(self, program))


class ReelsRun:
    """A run: the place of the token that comes next, the blocks that are being done,
    the counter, and how far a copy has come."""

    def __init__(self, signs):
        self.steps = 0
        self.written = ""
        self.is_ended = False
        self.signs = signs
        self.place = 0
        self.counter = 1
        # Of each open block, the outermost first: its first place, how often it is still done.
        self.blocks = [(0, 1)]
        self.copied = 0
        self.to_copy = 0

    def step(self):
        """Does one step; returns the bit that it wrote, "end", or None."""
        if self.is_ended:
            return "end"
        self.steps += 1
        sign = self.signs[self.place]
        if sign == "=" or sign == "~":
            return self._copy(sign)
        if sign == "." or sign == "*":
            return self._close(sign)
        self.place += 1
        if sign == "0" or sign == "1":
            return self._write(sign)
        if sign == "+":
            self.counter += 1
        else:
            self.blocks.append((self.place, self.counter))
        return None

    def go(self, many):
        """Does up to many steps, as long as it has not ended; returns how many."""
        return go_on(self, many)

    def _write(self, sign):
        self.written += sign
        return int(sign)

    def _copy(self, sign):
        if self.copied == 0:
            # What the copy itself writes is not copied, so its length is fixed as it begins.
            self.to_copy = len(self.written)
        if self.to_copy == 0:
            self.place += 1
            return None
        told = self.written[self.copied]
        self.copied += 1
        if self.copied == self.to_copy:
            self.copied = 0
            self.place += 1
        if sign == "=":
            return self._write(told)
        return self._write("1" if told == "0" else "0")

    def _close(self, sign):
        first, times = self.blocks[-1]
        if sign == "*":
            self.place = first
            return None
        if times > 1:
            self.blocks[-1] = (first, times - 1)
            self.place = first
            return None
        self.blocks.pop()
        self.place += 1
        self.is_ended = len(self.blocks) == 0
        return "end" if self.is_ended else None
