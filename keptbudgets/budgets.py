"""Budgets that can be kept in all rows: a guesser that keeps them, and an adversary otherwise."""

from keptbudgets.checks import check_bit, check_budgets, check_budgets_of, check_rows
from keptbudgets.errors import InvalidBudgets
from keptbudgets.hearing import hear
from keptbudgets.kinds import are_numbers
from keptbudgets.shares import sum_of_halves
from keptbudgets.writers import without_flips


def sum_of(budgets):
    """The share that is the sum of 1 / 2 ** b over the budgets."""
    check_budgets(budgets)
    return sum_of_halves(budgets)


def can_keep(budgets):
    """Whether their sum is below 2, so that they can be kept in all rows."""
    check_budgets(budgets)
    room = 2
    depth = 0
    for place, budget in enumerate(sorted(budgets)):
        left = len(budgets) - place
        down = budget - depth
        # All that are left together do not fill the room; a budget of hundreds of digits ends here.
        if down >= left.bit_length():
            return True
        room = (room << down) - 1
        depth = budget
        if room == 0:
            return False
    return True


def least_everywhere(budgets):
    """The lowest number that, added to all budgets, makes them ones that can be kept in all rows."""
    total = sum_of(budgets)
    return max(0, (total.over // total.under).bit_length() - 1)


class Keeper:
    """A guesser that keeps the budgets of programs that write given rows, if their sum is below 2."""

    def __init__(self, rows, budgets):
        check_rows(rows)
        check_budgets_of(rows, budgets)
        self.seen = ""
        self.errors = 0
        self._writers = without_flips(rows)
        self._budgets = tuple(budgets)

    def guess(self):
        """The bit whose living writers have the greater weight; 0 if both have the same."""
        return 1 if self._weight_of("0").is_below(self._weight_of("1")) else 0

    def tell(self, bit):
        """Tells it the next bit."""
        hear(self, bit)

    def living(self):
        """The programs whose rows begin with what was told, ascending."""
        return self._writers.living_at(self.seen)

    def _weight_of(self, sign):
        # The errors made are the same for all programs; they would double both weights alike.
        writers = self._writers.living_at(self.seen + sign)
        return sum_of_halves([self._budgets[program] for program in writers])


class Breaker:
    """An adversary that breaks one of the budgets, if their sum is at least 2."""

    def __init__(self, budgets):
        _check_breakable(budgets)
        self.broken = None
        self.row = ""
        self._living = _in_order(budgets)

    def answer(self, bit):
        """The bit that is told behind this guess, or None if a program is broken already."""
        check_bit(bit)
        if self.broken is not None:
            return None
        told = 1 - bit
        side = _sides_of(self._living)[told]
        self.row += str(told)
        self.broken = _broken_on(side)
        self._living = _with_less(side)
        return told


def worst_language(budgets):
    """Rows in which no guesser keeps the budgets: the sides on which a Breaker has the programs."""
    _check_breakable(budgets)
    rows = [""] * len(budgets)
    _write_sides(rows, _in_order(budgets))
    longest = max([len(row) for row in rows])
    return tuple([row.ljust(longest, "0") for row in rows])


def _check_breakable(budgets):
    if not are_numbers(budgets) or can_keep(budgets):
        raise InvalidBudgets(budgets)


def _in_order(budgets):
    """The pairs (budget, program), ascending; living programs are told so below, too."""
    return sorted([(budget, program) for program, budget in enumerate(budgets)])


def _sides_of(living):
    """The lower and the upper side of living programs whose sum is at least 2."""
    room = 1
    depth = 0
    many = 0
    # Each budget is at least the one before, so that the room is filled up exactly.
    while room > 0:
        budget = living[many][0]
        room = (room << (budget - depth)) - 1
        depth = budget
        many += 1
    return (living[:many], living[many:])


def _broken_on(side):
    """The program with the lowest number that has no error left, or None."""
    return min([program for budget, program in side if budget == 0], default=None)


def _with_less(side):
    return [(budget - 1, program) for budget, program in side]


def _write_sides(rows, living):
    """Writes on the row of each living program its sides, as long as none that lives with it is broken."""
    for sign, side in zip("01", _sides_of(living)):
        for _, program in side:
            rows[program] += sign
        if _broken_on(side) is None:
            _write_sides(rows, _with_less(side))
