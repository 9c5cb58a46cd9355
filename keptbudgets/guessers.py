"""Guessers by the programs of a language."""

from keptbudgets.hearing import hear
from keptbudgets.runs import bit_within, programs_up_to
from keptbudgets.shares import sum_of_halves


class Guesser:
    """A guesser by the programs that have written what was told, and were never late."""

    def __init__(self, language, most, patience):
        self.seen = ""
        self.errors = 0
        self._patience = patience
        self._living = [(program, language.begin(program, "")) for program in programs_up_to(language, most)]
        # The next bits of the living programs; None as long as nobody asked for them.
        self._ahead = None

    def guess(self):
        """The bit that is next for programs with the greater weight; 0 if both have the same."""
        zero, one = self.weights_ahead()
        return 1 if zero.is_below(one) else 0

    def tell(self, bit):
        """Tells it the next bit of the row."""
        left = [member for member, ahead in zip(self._living, self._bits_ahead()) if ahead == bit]
        hear(self, bit)
        self._living = left
        self._ahead = None

    def living(self):
        """The living programs, ascending."""
        return tuple([program for program, _ in self._living])

    def weight(self):
        """The weight of the living programs."""
        return sum_of_halves([len(program) for program, _ in self._living])

    def weights_ahead(self):
        """The weight of the living programs whose next bit is 0, and that of those whose next bit is 1."""
        lengths = [len(program) for program, _ in self._living]
        return _weights_by_bit(lengths, self._bits_ahead())

    def _bits_ahead(self):
        if self._ahead is None:
            place = len(self.seen)
            self._ahead = [bit_within(run, place, run.steps + self._patience) for _, run in self._living]
        return self._ahead


class Forgiving:
    """A guesser by all programs, whose weights are halved where they are wrong or late."""

    def __init__(self, language, most, patience):
        self.seen = ""
        self.errors = 0
        self._patience = patience
        programs = programs_up_to(language, most)
        self._runs = [language.begin(program, "") for program in programs]
        # The weight of each program is 1 / 2 ** this.
        self._halvings = [len(program) for program in programs]

    def guess(self):
        """The bit that is next for programs with the greater weight; 0 if both have the same."""
        zero, one = _weights_by_bit(self._halvings, self._bits_ahead())
        return 1 if zero.is_below(one) else 0

    def tell(self, bit):
        """Tells it the next bit of the row."""
        bits = self._bits_ahead()
        halvings = [many if ahead == bit else many + 1 for many, ahead in zip(self._halvings, bits)]
        hear(self, bit)
        self._halvings = halvings

    def weight(self):
        """The sum of the weights of all programs."""
        return sum_of_halves(self._halvings)

    def _bits_ahead(self):
        place = len(self.seen)
        return [_patient_bit(run, place, self._patience) for run in self._runs]


def errors_of(language, program, patience, row):
    """At how many places of the row the next bit of the program is another one, or missing."""
    run = language.begin(program, "")
    bits = [_patient_bit(run, place, patience) for place in range(len(row))]
    return len([1 for sign, ahead in zip(row, bits) if ahead != int(sign)])


def _patient_bit(run, place, patience):
    """The bit at this place, if the run writes it within patience steps for each place up to it."""
    return bit_within(run, place, (place + 1) * patience)


def _weights_by_bit(halvings, bits):
    """The sum of 1 / 2 ** halvings where the bit is 0, and that where it is 1."""
    zero = [many for many, bit in zip(halvings, bits) if bit == 0]
    one = [many for many, bit in zip(halvings, bits) if bit == 1]
    return (sum_of_halves(zero), sum_of_halves(one))
