"""How much more is needed so that budgets can be kept in given rows."""

from keptbudgets.checks import check_budgets_of, check_rows
from keptbudgets.errors import NoProgram
from keptbudgets.games import Game
from keptbudgets.kinds import is_integer


def least_more(rows, budgets, *, flips=None):
    """The lowest number that, added to all budgets, makes them ones that can be kept."""
    return max(0, Game(rows, budgets, flips=flips).need())


def least_errors(rows, *, flips=None):
    """The lowest budget that, given to all programs, can be kept."""
    check_rows(rows)
    return Game(rows, [0] * len(rows), flips=flips).need()


def least_budget(rows, budgets, program):
    """The lowest budget of this program with which budgets can be kept; None if there is none."""
    check_rows(rows)
    check_budgets_of(rows, budgets)
    if not is_integer(program) or not 0 <= program < len(rows):
        raise NoProgram(program)
    changed = list(budgets)
    # No guesser errs more often than a row has bits, so that no budget above is of any more use.
    for budget in range(len(rows[0]) + 1):
        changed[program] = budget
        if Game(rows, changed).is_kept():
            return budget
    return None
