"""Programs that tell chances."""

from keptbudgets.errors import InvalidRows
from keptbudgets.kinds import is_integer, is_number, is_sequence
from keptbudgets.shares import Share


class Source:
    """States, each of which tells the chance of both bits and the state behind each."""

    def __init__(self, rows):
        if not _are_states(rows):
            raise InvalidRows(rows)
        self._rows = tuple([tuple(row) for row in rows])

    def chance(self, word):
        """The product of the chances of the bits of a word."""
        product = Share(1, 1)
        state = 0
        for sign in word:
            zero, behind_zero, one, behind_one = self._rows[state]
            product = product * Share(zero if sign == "0" else one, zero + one)
            state = behind_zero if sign == "0" else behind_one
        return product


def _are_states(rows):
    if not is_sequence(rows) or len(rows) == 0:
        return False
    return all([_is_state(row, len(rows)) for row in rows])


def _is_state(row, many):
    if not is_sequence(row) or len(row) != 4:
        return False
    zero, behind_zero, one, behind_one = row
    if not is_number(zero) or not is_number(one) or zero + one == 0:
        return False
    return _is_number_of_state(behind_zero, many) and _is_number_of_state(behind_one, many)


def _is_number_of_state(value, many):
    return is_integer(value) and 0 <= value < many
