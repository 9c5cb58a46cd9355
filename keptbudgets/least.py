"""The programs of a language that tell words: the first ones, and their chances."""

from keptbudgets.codes import word_of
from keptbudgets.runs import programs_up_to
from keptbudgets.shares import sum_of_halves


def least_program(language, word, most, steps, *, given=""):
    """The first program of at most most bits, ascending, that tells the word, or None."""
    for length in range(most + 1):
        for program in language.programs(length):
            if _tells(language.begin(program, given), word, steps):
                return program
    return None


def told_words(language, most, steps, *, given=""):
    """For each word that a program of at most most bits tells, ascending, the word and the first such program."""
    firsts = {}
    for program, word in _told(language, most, steps, given):
        firsts.setdefault(word, program)
    words = sorted(list(firsts), key=lambda told: (len(told), told))
    return tuple([(word, firsts[word]) for word in words])


def untold(language, many, most, steps):
    """The first word of many bits, ascending, that no program of fewer than most bits tells, or None."""
    told = {word: True for _, word in _told(language, most - 1, steps, "")}
    for value in range(1 << many):
        word = word_of(value, many)
        if word not in told:
            return word
    return None


def chance_to_write(language, word, most, steps):
    """The sum of 1 / 2 ** l over the programs of l <= most bits that tell the word."""
    programs = programs_up_to(language, most)
    return sum_of_halves([len(program) for program in programs if _tells(language.begin(program, ""), word, steps)])


def share_of_ended(language, most, steps):
    """The same sum over all programs that end within so many steps."""
    return sum_of_halves([len(program) for program, _ in _told(language, most, steps, "")])


def _tells(run, word, steps):
    """Whether the run ends within so many steps, having written just this word."""
    # What is not a beginning of the word will not become one.
    while run.steps < steps and not run.is_ended and word.startswith(run.written):
        run.step()
    return run.is_ended and run.written == word


def _told(language, most, steps, given):
    """For each program of at most most bits that ends within so many steps the program and what it wrote."""
    found = []
    for program in programs_up_to(language, most):
        run = language.begin(program, given)
        run.go(steps)
        if run.is_ended:
            found.append((program, run.written))
    return found
