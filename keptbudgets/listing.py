"""The programs of Reels() or Stacks() by their numbers."""

from keptbudgets.blocks import TOKENS, depth_behind, signs_of
from keptbudgets.errors import InvalidNumber, NoProgram
from keptbudgets.kinds import is_integer


def count_programs(language, tokens):
    """How many programs have so many tokens."""
    return _ways_to_close(language, tokens)[tokens][1]


def program_of_number(language, tokens, number):
    """The program that has number programs of so many tokens below it."""
    ways = _ways_to_close(language, tokens)
    if not is_integer(number) or not 0 <= number < ways[tokens][1]:
        raise InvalidNumber(number)
    program = ""
    depth = 1
    below = number
    for left in reversed(range(tokens)):
        for token, sign in zip(TOKENS, language.SIGNS):
            behind = depth_behind(language, sign, depth)
            if below < ways[left][behind]:
                break
            below = below - ways[left][behind]
        program = program + token
        depth = behind
    return program


def number_of_program(language, program):
    """How many programs of as many tokens are below this one."""
    if not language.is_program(program):
        raise NoProgram(program)
    signs = signs_of(language, program)
    ways = _ways_to_close(language, len(signs))
    below = 0
    depth = 1
    for place, own in enumerate(signs):
        left = len(signs) - place - 1
        for sign in language.SIGNS[:language.SIGNS.index(own)]:
            below = below + ways[left][depth_behind(language, sign, depth)]
        depth = depth_behind(language, own, depth)
    return below


def _ways_to_close(language, tokens):
    """ways[left][depth]: how many rows of left tokens close depth open blocks with their end."""
    closers = len(language.CLOSERS)
    others = len(language.SIGNS) - closers - 1
    ways = [[1] + [0] * (tokens + 2)]
    for left in range(tokens):
        fewer = ways[left]
        row = [0]
        for depth in range(1, tokens + 2):
            row.append(others * fewer[depth] + fewer[depth + 1] + closers * fewer[depth - 1])
        ways.append(row + [0])
    return ways
