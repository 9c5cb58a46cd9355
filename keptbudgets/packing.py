"""Rows packed by the programs of a language that write them."""

from keptbudgets.codes import value_of, word_of
from keptbudgets.guessers import Guesser
from keptbudgets.shares import Share, half_of


def chance_of(language, most, patience, row):
    """The chance Q of the row."""
    return _path_along(language, most, patience, row).chance()


def low_of(language, most, patience, row):
    """The sum of the chances of all rows of the same length below this one."""
    return _path_along(language, most, patience, row).low


def pack(language, most, patience, row):
    """The first word whose stretch lies within that of the row."""
    path = _path_along(language, most, patience, row)
    return word_within(path.low, path.chance())


def unpack(language, most, patience, many, text):
    """The row of so many bits whose packed word begins the text, and the rest of the text."""
    path = Path(language, most, patience)
    point = point_of(text)
    for _ in range(many):
        middle = path.low + path.chance_with_zero()
        path.go(0 if point.is_below(middle) else 1)
    packed = word_within(path.low, path.chance())
    return (path.row, text[len(packed):])


def point_of(text):
    """Where the stretch of a word begins."""
    return Share(value_of(text), 1) * half_of(len(text))


def word_within(low, chance):
    """The first word, ascending, whose stretch lies within that from low on of length chance."""
    high = low + chance
    length = 0
    while True:
        # The lowest value of this length that does not begin below low.
        value = -((-low.over << length) // low.under)
        if not high.is_below(Share(value + 1, 1) * half_of(length)):
            return word_of(value, length)
        length += 1


class Path:
    """The way along a row, bit by bit, with the guesser that is told them."""

    def __init__(self, language, most, patience):
        self.row = ""
        self.low = Share(0, 1)
        self._guesser = Guesser(language, most, patience)
        # P of the row up to here.
        self._by_programs = Share(1, 1)

    def chance(self):
        """The chance Q of the row up to here."""
        return _half_each(half_of(len(self.row)), self._by_programs)

    def chance_with_zero(self):
        """The chance Q of the row up to here with a 0 behind it."""
        return _half_each(half_of(len(self.row) + 1), self._by_programs_with(0))

    def go(self, bit):
        """Goes on by this bit."""
        if bit == 1:
            self.low = self.low + self.chance_with_zero()
        self._by_programs = self._by_programs_with(bit)
        self._guesser.tell(bit)
        self.row += str(bit)

    def _by_programs_with(self, bit):
        weights = self._guesser.weights_ahead()
        both = weights[0] + weights[1]
        if both.over == 0:
            return self._by_programs * half_of(1)
        return self._by_programs * weights[bit] * Share(both.under, both.over)


def _path_along(language, most, patience, row):
    path = Path(language, most, patience)
    for sign in row:
        path.go(int(sign))
    return path


def _half_each(one, other):
    return (one + other) * half_of(1)
