"""Programs of Reels() and Stacks() as texts of the signs of their tokens."""

from keptbudgets.blocks import longest_beginning, signs_of, tokens_of
from keptbudgets.errors import InvalidText, NoProgram
from keptbudgets.reels import Reels
from keptbudgets.stacks import Stacks


def write_reels(program):
    """The text of a program of Reels()."""
    return _write(Reels(), program)


def write_stacks(program):
    """The text of a program of Stacks()."""
    return _write(Stacks(), program)


def read_reels(text):
    """The program of Reels() with this text."""
    return _read(Reels(), text)


def read_stacks(text):
    """The program of Stacks() with this text."""
    return _read(Stacks(), text)


def _write(language, program):
    if not language.is_program(program):
        raise NoProgram(program)
    return signs_of(language, program)


def _read(language, text):
    if not isinstance(text, str):
        raise InvalidText(text, 0)
    at, depth = longest_beginning(language, text)
    if at < len(text) or depth > 0:
        raise InvalidText(text, at)
    return tokens_of(language, text)
