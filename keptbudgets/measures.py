"""Lengths of shortest programs, and the rows that programs write without being late."""

from keptbudgets.audits import row_told_by
from keptbudgets.least import least_program
from keptbudgets.runs import programs_up_to


def shortest(language, word, most, steps, *, given=""):
    """The length of the first program of at most most bits that tells the word, or None."""
    program = least_program(language, word, most, steps, given=given)
    return None if program is None else len(program)


def distance(language, first, second, most, steps):
    """The length that is needed to tell each word with the other one given, or None."""
    forth = shortest(language, first, most, steps, given=second)
    back = shortest(language, second, most, steps, given=first)
    return None if forth is None or back is None else max(forth, back)


def rows_of(language, most, patience, many):
    """For each program of at most most bits that writes many bits without being late the program and its row."""
    pairs = [(program, row_told_by(language, program, many, patience)) for program in programs_up_to(language, most)]
    return tuple([(program, row) for program, row in pairs if row is not None])
