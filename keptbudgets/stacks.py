"""A small language whose programs work on two stacks of bits."""

from keptbudgets.blocks import blocks_of, is_block, signs_of
from keptbudgets.errors import NoProgram
from keptbudgets.runs import go_on


class Stacks:
    """The language of stacks."""

    SIGNS = ".01[><!?"
    CLOSERS = "."

    def programs(self, length):
        """All programs of this length, ascending."""
        return blocks_of(self, length)

    def is_program(self, program):
        """Whether any value is a program of this language."""
        return is_block(self, program)

    def begin(self, program, given):
        """A run of the program, with the given word on its first stack."""
        if not self.is_program(program):
            raise NoProgram(program)
        return StacksRun(signs_of(self, program), given)


class StacksRun:
    """A run: the place of the token that comes next, and both stacks, their tops last."""

    def __init__(self, signs, given):
        self.steps = 0
        self.written = ""
        self.is_ended = False
        self.signs = signs
        self.partners = _partners_in(signs)
        self.place = 0
        self.stack_a = [int(sign) for sign in given[::-1]]
        self.stack_b = []

    def step(self):
        """Does one step; returns the bit that it wrote, "end", or None."""
        if self.is_ended:
            return "end"
        self.steps += 1
        place = self.place
        sign = self.signs[place]
        self.place += 1
        if sign == "!":
            return self._write()
        if sign == ".":
            return self._close(place)
        if sign == "[":
            self._enter(place)
        elif sign == ">":
            _move_top(self.stack_a, self.stack_b)
        elif sign == "<":
            _move_top(self.stack_b, self.stack_a)
        elif sign == "?":
            self.stack_a.append(1 if len(self.stack_b) == 0 else 0)
        else:
            self.stack_a.append(int(sign))
        return None

    def go(self, many):
        """Does up to many steps, as long as it has not ended; returns how many."""
        return go_on(self, many)

    def _write(self):
        if len(self.stack_a) == 0:
            return None
        bit = self.stack_a.pop()
        self.written += str(bit)
        return bit

    def _close(self, place):
        if place in self.partners:
            self.place = self.partners[place]
            return None
        self.is_ended = True
        return "end"

    def _enter(self, place):
        if len(self.stack_a) == 0 or self.stack_a.pop() == 0:
            self.place = self.partners[place] + 1


def _move_top(source, target):
    if len(source) > 0:
        target.append(source.pop())


def _partners_in(signs):
    """For the place of each inner block's beginning that of its closer, and the other way."""
    partners = {}
    begun = []
    for place, sign in enumerate(signs):
        if sign == "[":
            begun.append(place)
        elif sign == "." and len(begun) > 0:
            first = begun.pop()
            partners[first] = place
            partners[place] = first
    return partners
