"""What the programs and runs of all languages have in common."""

from keptbudgets.errors import InvalidNumber
from keptbudgets.kinds import is_number


def go_on(run, many):
    """Does up to many steps of a run, as long as it has not ended; returns how many."""
    if not is_number(many):
        raise InvalidNumber(many)
    done = 0
    while done < many and not run.is_ended:
        run.step()
        done = done + 1
    return done


def bit_within(run, place, steps):
    """The bit number place of a run, if it has written it by so many steps from its beginning;
    otherwise None. The run is taken on as far as that needs, and no further."""
    while len(run.written) <= place and run.steps < steps and not run.is_ended:
        run.step()
    return int(run.written[place]) if len(run.written) > place else None


def programs_up_to(language, most):
    """All programs of at most so many bits, ascending."""
    found = []
    for length in range(most + 1):
        found.extend(language.programs(length))
    return found
