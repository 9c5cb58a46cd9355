"""Checks of arguments that several modules take; each raises the error that is due."""

from keptbudgets.codes import is_word
from keptbudgets.errors import InvalidBudgets, InvalidNumber, InvalidRows
from keptbudgets.kinds import are_numbers, is_bit, is_sequence


def check_bit(bit):
    """Refuses any value but a bit."""
    if not is_bit(bit):
        raise InvalidNumber(bit)


def check_rows(rows):
    """Refuses any value but a sequence of at least one word, all of one length."""
    if not _are_rows(rows):
        raise InvalidRows(rows)


def check_budgets(budgets):
    """Refuses any value but a sequence of numbers."""
    if not are_numbers(budgets):
        raise InvalidBudgets(budgets)


def check_budgets_of(rows, budgets):
    """Refuses any value but as many budgets as there are rows."""
    if not are_numbers(budgets) or len(budgets) != len(rows):
        raise InvalidBudgets(budgets)


def _are_rows(value):
    if not is_sequence(value) or len(value) == 0:
        return False
    return all([is_word(part) for part in value]) and all([len(word) == len(value[0]) for word in value])
