"""What point [31] tells of the words that programs tell, from the whole runs of programs."""

from fractions import Fraction

from languages import first_steps, programs_up_to, remembered


@remembered
def word_told(told, program, given, steps):
    """What its run has written if it ends within so many steps; otherwise None."""
    answers = first_steps(told, program, given, steps)
    return "".join(str(answer) for answer in answers if answer in (0, 1)) if answers[-1:] == ["end"] else None


@remembered
def tellers(told, most, steps, given):
    """For each word that is told the programs that tell it, ascending."""
    found = {}
    for program in programs_up_to(told, most):
        word = word_told(told, program, given, steps)
        if word is not None:
            found.setdefault(word, []).append(program)
    return {word: found[word] for word in sorted(found, key=lambda word: (len(word), word))}


def least_told(told, word, most, steps, given=""):
    return tellers(told, most, steps, given).get(word, [None])[0]


def weight_of(programs):
    return sum((Fraction(1, 2 ** len(program)) for program in programs), Fraction(0))
