"""Rows packed by the measure that loses least against several sources."""

from keptbudgets.codes import value_of
from keptbudgets.errors import NotWritten
from keptbudgets.losses import least_loss, measure_for
from keptbudgets.packing import point_of, word_within
from keptbudgets.shares import Share


class SourceCoder:
    """A coder of words of many bits, by the measure with the least loss for all sources alike."""

    def __init__(self, sources, many):
        loss = least_loss(sources, many)
        self._many = many
        # For each word the sum of the measure over all words below it; and at the end the whole sum.
        self._lows = [Share(0, 1)]
        for share in measure_for(sources, [loss] * len(sources), many):
            self._lows.append(self._lows[-1] + share)

    def chance(self, word):
        """The sum of the measure over the words of many bits that begin with this one."""
        left = self._many - len(word)
        behind = (value_of(word) + 1) << left
        return self._lows[behind] - self._low_of(word)

    def pack(self, word):
        """The first word whose stretch lies within that of this word of many bits."""
        chance = self.chance(word)
        if chance.over == 0:
            raise NotWritten(word)
        return word_within(self._low_of(word), chance)

    def unpack(self, text):
        """The word of many bits whose packed word begins the text, and the rest of the text."""
        point = point_of(text)
        word = ""
        for _ in range(self._many):
            word += "0" if point.is_below(self._low_of(word + "1")) else "1"
        packed = self.pack(word)
        return (word, text[len(packed):])

    def _low_of(self, word):
        """The sum of the measure over the words of many bits below those that begin with this one."""
        return self._lows[value_of(word) << (self._many - len(word))]
