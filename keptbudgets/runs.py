"""What the runs of all languages have in common."""

from keptbudgets.errors import InvalidNumber
from keptbudgets.kinds import is_number


def go_on(run, many):
    """Does up to many steps of a run, as long as it has not ended; returns how many."""
    if not is_number(many):
        raise InvalidNumber(many)
    done = 0
    while done < many and not run.is_ended:
        run.step()
        done = done + 1
    return done
